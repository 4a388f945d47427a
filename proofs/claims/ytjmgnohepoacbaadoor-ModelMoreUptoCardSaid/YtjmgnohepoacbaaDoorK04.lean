/-
  model's machine begins a function that has a name of its own.
  model's machine begins an expression: all kinds.
  model's machine: what an expression comes to, of which all parts have: one or two values handed on. (Made by gen_maz.py.)
  The machine: an integer's digits.
  Rows of values, one behind the other, in new memory.
  Rows of texts, one behind the other, in new memory.
  Where a text is looked for in a row: slices.BinarySearch, whatever the row.
  What a sort of places by their labels asks: how two are compared; the worlds that it passes through.
  The stable sort, about no program: what its steps make of an array, whatever the comparison.
  The stable sort: two stretches exchanged, and turned. (Made by gen_sort17.py.)
-/
import Derived.Test.YtjmgnohepoacbaaDoorK03
import Derived.Deep.RegionHeld3
import Derived.Test.YtjmgnohepoacbaaDoorShelfN
import Derived.Lib.ItoaLen
import Derived.Lib.LaidTab
import Derived.Shelf.Spec.SlicesGrow
import Derived.Shelf.SlSortCmp.Insertion1
import Derived.Sort.WalkA
import Derived.Sort.WalkB2
import Derived.Sort.WalkB12
import Derived.Deep.LoopGhost
namespace Go.Proofs.YtjmgnohepoacbaaDoor
open Go.ChangeShapes Go.WideShapes Go.ChangeAt Go.RowKit Go.Sort
set_option linter.unusedVariables false
set_option linter.unusedSimpArgs false

section
variable {w0 w : World} {B mb : Nat} {s : St} {t i r v f nx nm : Value} {rcs vcs fcs : List (List Value)}
theorem Rep.eblt (h : Rep w0 B mb s w t i r v f nx nm rcs vcs fcs) {b : Nat} (hb : b < w0.heap.size) : Mv mb t r v f b := h.mv b (by have := h.base.1; omega)
theorem cell_tr {P Q : Nat → Prop} {wr w3 : World} (hT : Tr wr P w3 Q) {b o : Nat} (hP : P b) {u : Value} (hc : wr.cell? ⟨b, o, none⟩ = some u) : w3.cell? ⟨b, o, none⟩ = some u := by
  have hl : b < wr.heap.size := block_lt_of_cell hc
  rw [World.cell?_of_block (hT b hP hl).2]; exact hc
theorem ExD.At.blt {w : World} {d : ExD} {b o : Nat} (h : d.At w b o) : b < w.heap.size := block_lt_of_cell h.c0
theorem keep4 (h : Rep w0 B mb s w t i r v f nx nm rcs vcs fcs) {wr w3 : World} {s' : St} (hb : Below w.heap.size w wr) {d : ExD} {eb eo : Nat} (hd : d.At w0 eb eo) {o2 o3 o5 : Nat} {u0 u2 u3 u5 : Value} (hS : wr.cell? ⟨w.heap.size, 0, none⟩ = some u0 ∧ wr.cell? ⟨eb, o2, none⟩ = some u2 ∧ wr.cell? ⟨eb, o3, none⟩ = some u3 ∧ wr.cell? ⟨eb, o5, none⟩ = some u5) (hp : Post w0 B mb (Mv mb t r v f) wr s' w3) :
    w3.cell? ⟨w.heap.size, 0, none⟩ = some u0 ∧ w3.cell? ⟨eb, o2, none⟩ = some u2 ∧ w3.cell? ⟨eb, o3, none⟩ = some u3 ∧ w3.cell? ⟨eb, o5, none⟩ = some u5 := by
  obtain ⟨t', i', r', v', f', nx', nm', rcs', vcs', fcs', h1, h2, h3⟩ := hp
  have he := h.eblt hd.blt
  exact ⟨cell_tr h2 (h.mvNew _ (Nat.le_refl _)) hS.1, cell_tr h2 he hS.2.1, cell_tr h2 he hS.2.2.1, cell_tr h2 he hS.2.2.2⟩
set_option maxHeartbeats 8000000 in
theorem beginRec_any (h : Rep w0 B mb s w t i r v f nx nm rcs vcs fcs) (hv : s.vals.length ≤ 100000000000) (e x y : Ex) (env : Env) (eb eo : Nat) (u : Option Addr) (he : EN w0 w (Mv mb t r v f) e env eb eo (.pointer u)) (hd : e.d.At w eb eo) (hl : e.l = [x, y]) (hp : e.d.pn ≤ 4000000) (hn : e.d.nn ≤ 4000000) (hq : e.d.ln ≤ 4000000) (hk : partsOk e.d = true) (hkd : e.d.kind = 7) :
    Calls Tryd.prog 14 #[.agg #[.pointer (some ⟨mb, 0, none⟩)], .pointer (some ⟨eb, eo, none⟩), .pointer u] w fun e1 w' => e1 = .returned (.tuple #[]) ∧ Post w0 B mb (Mv mb t r v f) w { s with next := some (y, (e.d.s, .mk 3 0 [] [] [] (some (.mk e.d.s true e.d.t x env))) :: env) } w' := by
  have hb : Below w.heap.size w (w.alloc (.cells #[.pointer (some ⟨mb, 0, none⟩)] 41)) := (Below.refl _ _).alloc (Nat.le_refl _) _
  have HP0 := Lib.hid (parts_any e.d _ eb eo (hd.lower hb) hp hn hq)
  have k7 := (hd.lower hb).c7
  rw [hk] at HP0
  obtain ⟨pb, po, hpA, hAt⟩ := he.1.1.part (k := 0) (by rw [hl]; exact (show 0 < 2 by decide))
  have hpn : e.d.pn = 2 := by rw [← he.1.1.len, hl]; rfl
  rw [show ((e.d.pn : Nat) : Int) = 2 by omega] at HP0
  rw [hpn] at k7
  have hxA : x.d.At w0 pb po := by have := hAt 0 (by rw [hl]; exact (show 0 < 2 by decide)); simpa [hl] using this
  have hxI : x.In w0 := he.1.1.sub x (by rw [hl]; simp)
  have hyA : y.d.At w0 pb (po + 8) := by have := hAt 1 (by rw [hl]; exact (show 1 < 2 by decide)); simpa [hl] using this
  have hyI : y.In w0 := he.1.1.sub y (by rw [hl]; simp)
  have HL := Lib.hid (fun (wr : World) (hb : Below w.heap.size w wr) => named2_any w0 wr (Mv mb t r v f) (fun b hbb => (h.below hb).mvNew b hbb) e.d.s e.d.t x env pb po u ⟨⟨hxI, hxA⟩, he.2.keep (Tr.below hb)⟩)
  have HC := Lib.hid (fun (wr : World) (hb : Below w.heap.size w wr) (q : Option Addr) hz => bind_any (h.below hb) y env pb (po + 8) u ⟨⟨hyI, hyA⟩, he.2.keep (Tr.below hb)⟩ e.d.s (.mk 3 0 [] [] [] (some (.mk e.d.s true e.d.t x env))) (.int .i64 3) (.int .i64 0) (.string (bstr [])) (.slice none 0 0) (.slice none 0 0) (.pointer q) hz)
  have HD := Lib.hid (fun (wr : World) (hb : Below w.heap.size w wr) => hd.lower hb)
  have HB := Lib.hid hb
  have hx := heap_new (w := w) (o := .cells #[.pointer (some ⟨mb, 0, none⟩)] 41) rfl
  have HX := Lib.hid hx
  have HBM := Lib.hid (fun (wr : World) (hb : Below w.heap.size w wr) => And.intro (Tr.below (P := Mv mb t r v f) hb) (hb.mono (Nat.le_of_lt (Nat.lt_of_le_of_lt h.base.2 h.lt))))
  have HK := Lib.hid (fun (wr w3 : World) (hb : Below w.heap.size w wr) (hS : wr.cell? ⟨w.heap.size, 0, none⟩ = some (.pointer (some ⟨mb, 0, none⟩)) ∧ wr.cell? ⟨eb, eo + 3, none⟩ = some (.string (bstr e.d.s)) ∧ wr.cell? ⟨eb, eo + 4, none⟩ = some (.string (bstr e.d.t)) ∧ wr.cell? ⟨eb, eo + 7, none⟩ = some (.slice (some ⟨pb, po, none⟩) 2 e.d.pc)) (hp : Post w0 B mb (Mv mb t r v f) wr { s with next := some (y, (e.d.s, .mk 3 0 [] [] [] (some (.mk e.d.s true e.d.t x env))) :: env) } w3) => keep4 h hb he.1.2 hS hp)
  clear h hb he hd hp hn hq hk hv hx hl hAt hxA hxI hyA hyI
  go_enter Tryd.func14, Tryd.ntmps14
  go_upto_region 14 with (go_at_call 19; (with_reducible refine HP0.out.mono ?_); rintro e1 w1 ⟨rfl, hb1⟩; have hbw := below_then HB.out hb1; have c0 : w1.cell? ⟨w.heap.size, 0, none⟩ = some (.pointer (some ⟨mb, 0, none⟩)) := (by rw [Lib.cell_of_heap ((hb1.block _ (lt_of_heap HX.out)).trans HX.out)]; rfl); have k0 := (HD.out _ hbw).c0; have k2 := (HD.out _ hbw).c3; have k3 := (HD.out _ hbw).c4; have k5 := (HD.out _ hbw).c7; rw [hkd] at k0; rw [hpA, hpn] at k5; clear k7; have HB1 := Lib.hid hbw; clear hb1 HP0 hbw)
  have HD1 := Lib.hid (below_then HB1.out (below_drew1 w1))
  have HS1 := Lib.hid (show (fun V : World => V.cell? ⟨w.heap.size, 0, none⟩ = some (.pointer (some ⟨mb, 0, none⟩)) ∧ V.cell? ⟨eb, eo + 3, none⟩ = some (.string (bstr e.d.s)) ∧ V.cell? ⟨eb, eo + 4, none⟩ = some (.string (bstr e.d.t)) ∧ V.cell? ⟨eb, eo + 7, none⟩ = some (.slice (some ⟨pb, po, none⟩) 2 e.d.pc)) w1.drew from ⟨cell_below (below_drew1 w1) c0, cell_below (below_drew1 w1) k2, cell_below (below_drew1 w1) k3, cell_below (below_drew1 w1) k5⟩)
  have HLD := Lib.hid (HL.out _ HD1.out)
  clear c0 k0 k2 k3 k5
  go_region_held3 (fun V => V.cell? ⟨w.heap.size, 0, none⟩ = some (.pointer (some ⟨mb, 0, none⟩)) ∧ V.cell? ⟨eb, eo + 3, none⟩ = some (.string (bstr e.d.s)) ∧ V.cell? ⟨eb, eo + 4, none⟩ = some (.string (bstr e.d.t)) ∧ V.cell? ⟨eb, eo + 7, none⟩ = some (.slice (some ⟨pb, po, none⟩) 2 e.d.pc))
    (first | with_reducible exact HS1.out | with_reducible exact HS2.out | with_reducible exact HS3.out | fail)
    (first
    | (go_at_call 25; (with_reducible refine HLD.out.mono ?_); rintro e1 w2 ⟨q, rfl, hv2, hb2⟩; have hb3 := below_then HD1.out hb2; have HB2 := Lib.hid hb3; have HS2 := Lib.hid (And.intro (cell_below hb2 HS1.out.1) (And.intro (cell_below hb2 HS1.out.2.1) (And.intro (cell_below hb2 HS1.out.2.2.1) (cell_below hb2 HS1.out.2.2.2)))); have HT := Lib.hid (HC.out _ hb3 q hv2); clear hb2 hb3 hv2)
    | (go_at_call 24; (with_reducible refine HT.out.mono ?_); rintro e1 w3 ⟨rfl, hp⟩; have HP := Lib.hid hp; have HS3 := Lib.hid (HK.out _ _ HB2.out HS2.out hp); clear hp)
    | fail)
  all_goals
    go_wp2_with fail
    go_returns
    with_reducible exact ⟨rfl, HP.out.mono (HBM.out _ HB2.out).1 (HBM.out _ HB2.out).2⟩
end
end Go.Proofs.YtjmgnohepoacbaaDoor

namespace Go.Proofs.YtjmgnohepoacbaaDoor
open Go.ChangeShapes Go.WideShapes Go.ChangeAt Go.RowKit Go.Sort
set_option linter.unusedVariables false
set_option linter.unusedSimpArgs false

def St.begin (s : St) (e : Ex) (env : Env) : St :=
  if partsOk e.d = false then { s with err := 11 }
  else if e.d.kind = 1 then { s with vals := s.vals ++ [.mk 1 e.d.n [] [] [] none] }
  else if e.d.kind = 2 then { s with vals := s.vals ++ [.mk 2 0 e.d.s [] [] none] }
  else if e.d.kind = 3 then s.name e.d.s env
  else if e.d.kind = 4 then (match e.l with
    | [x] => { s with vals := s.vals ++ [.mk 3 0 [] [] [] (some (.mk [] false e.d.s x env))] }
    | _ => s)
  else if e.d.kind = 7 then (match e.l with
    | [x, y] => { s with next := some (y, (e.d.s, .mk 3 0 [] [] [] (some (.mk e.d.s true e.d.t x env))) :: env) }
    | _ => s)
  else if e.d.kind = 22 then s.read
  else { s with frames := s.frames ++ [⟨e, env, s.vals.length⟩] }
theorem len1 {α : Type} {l : List α} (h : l.length = 1) : ∃ x, l = [x] := by
  match l, h with
  | [x], _ => exact ⟨x, rfl⟩
theorem len2 {α : Type} {l : List α} (h : l.length = 2) : ∃ x y, l = [x, y] := by
  match l, h with
  | [x, y], _ => exact ⟨x, y, rfl⟩
theorem len3 {α : Type} {l : List α} (h : l.length = 3) : ∃ x y z, l = [x, y, z] := by
  match l, h with
  | [x, y, z], _ => exact ⟨x, y, z, rfl⟩
theorem parts1 {d : ExD} (h : partsOk d = true) (hk : d.kind = 4 ∨ d.kind = 9 ∨ d.kind = 11 ∨ d.kind = 13 ∨ d.kind = 17 ∨ d.kind = 18 ∨ d.kind = 20 ∨ d.kind = 21) : d.pn = 1 := by
  unfold partsOk at h
  rw [if_neg (by omega), if_pos (by omega)] at h
  have := of_decide_eq_true h
  omega
theorem parts2 {d : ExD} (h : partsOk d = true) (hk : d.kind = 5 ∨ d.kind = 6 ∨ d.kind = 7 ∨ d.kind = 10 ∨ d.kind = 12 ∨ d.kind = 16 ∨ d.kind = 19) : d.pn = 2 := by
  unfold partsOk at h
  rw [if_neg (by omega), if_neg (by omega), if_pos (by omega)] at h
  have := of_decide_eq_true h
  omega
theorem parts3 {d : ExD} (h : partsOk d = true) (hk : d.kind = 15) : d.pn = 3 := by
  unfold partsOk at h
  rw [if_neg (by omega), if_neg (by omega), if_neg (by omega), if_pos (by omega)] at h
  have := of_decide_eq_true h
  omega
theorem parts8 {d : ExD} (h : partsOk d = true) (hk : d.kind = 8) : d.pn = d.ln := by
  unfold partsOk at h
  rw [if_neg (by omega), if_neg (by omega), if_neg (by omega), if_neg (by omega), if_pos (by omega)] at h
  have := of_decide_eq_true h
  omega
theorem partsC {d : ExD} (h : partsOk d = true) (hk : d.kind = 14) : d.pn = 1 + d.ln + (if d.t = [] then 0 else 1) ∧ d.nn = d.ln := by
  unfold partsOk at h
  rw [if_neg (by omega), if_neg (by omega), if_neg (by omega), if_neg (by omega), if_neg (by omega), if_pos hk] at h
  split at h
  · rename_i ht
    rw [if_pos ht]
    rw [Bool.and_eq_true] at h
    have h1 := of_decide_eq_true h.1
    have h2 := of_decide_eq_true h.2
    omega
  · rename_i ht
    rw [if_neg ht]
    rw [Bool.and_eq_true] at h
    have h1 := of_decide_eq_true h.1
    have h2 := of_decide_eq_true h.2
    omega
theorem partsKind {d : ExD} (h : partsOk d = true) : 1 ≤ d.kind ∧ d.kind ≤ 22 := by
  unfold partsOk at h
  repeat' split at h
  all_goals first | omega | cases h
section
variable {w0 w : World} {B mb : Nat} {s : St} {t i r v f nx nm : Value} {rcs vcs fcs : List (List Value)}
theorem beginAll_any (h : Rep w0 B mb s w t i r v f nx nm rcs vcs fcs) (hv : s.vals.length ≤ 100000000000) (hf : s.frames.length ≤ 100000000000) (hi : s.input.length ≤ 100000000000) (e : Ex) (env : Env) (eb eo : Nat) (u : Option Addr) (he : EN w0 w (Mv mb t r v f) e env eb eo (.pointer u)) (hd : e.d.At w eb eo) :
    Calls Tryd.prog 14 #[.agg #[.pointer (some ⟨mb, 0, none⟩)], .pointer (some ⟨eb, eo, none⟩), .pointer u] w fun e1 w' => e1 = .returned (.tuple #[]) ∧ Post w0 B mb (Mv mb t r v f) w (s.begin e env) w' := by
  have hp : e.d.pn ≤ 4000000 := he.1.1.cap.2.2.1.2.2
  have hn : e.d.nn ≤ 4000000 := he.1.1.cap.2.1.2.2
  have hq : e.d.ln ≤ 4000000 := he.1.1.cap.1.2.2
  have hl := he.1.1.len
  by_cases hk : partsOk e.d = false
  · rw [show s.begin e env = _ from if_pos hk]
    exact beginStuck_any h hv e env eb eo u he hd hp hn hq hk
  have hk' : partsOk e.d = true := by simpa using hk
  rw [show s.begin e env = _ from if_neg hk]
  by_cases q1 : e.d.kind = 1
  · rw [if_pos q1]
    exact beginInt_any h hv e env eb eo u he hd hp hn hq hk' q1
  rw [if_neg q1]
  by_cases q2 : e.d.kind = 2
  · rw [if_pos q2]
    exact beginText_any h hv e env eb eo u he hd hp hn hq hk' q2
  rw [if_neg q2]
  by_cases q3 : e.d.kind = 3
  · rw [if_pos q3]
    exact beginVar_any h hv e env eb eo u he hd hp hn hq hk' q3
  rw [if_neg q3]
  by_cases q4 : e.d.kind = 4
  · rw [if_pos q4]
    obtain ⟨x, hx⟩ := len1 (hl.trans (parts1 hk' (.inl q4)))
    rw [hx]
    exact beginFn_any h hv e x env eb eo u he hd hx hp hn hq hk' q4
  rw [if_neg q4]
  by_cases q7 : e.d.kind = 7
  · rw [if_pos q7]
    obtain ⟨x, y, hx⟩ := len2 (hl.trans (parts2 hk' (.inr (.inr (.inl q7)))))
    rw [hx]
    exact beginRec_any h hv e x y env eb eo u he hd hx hp hn hq hk' q7
  rw [if_neg q7]
  by_cases q22 : e.d.kind = 22
  · rw [if_pos q22]
    exact beginRead_any h hv hi e env eb eo u he hd hp hn hq hk' q22
  rw [if_neg q22]
  exact beginWait_any h hv hf e env eb eo u he hd hp hn hq hk' q1 q2 q3 q4 q7 q22
end
end Go.Proofs.YtjmgnohepoacbaaDoor

namespace Go.Proofs.YtjmgnohepoacbaaDoor
open Go.ChangeShapes Go.WideShapes Go.ChangeAt Go.RowKit Go.Sort
set_option linter.unusedVariables false
set_option linter.unusedSimpArgs false

/-- One of the values that lie side by side: where it lies. -/
theorem Vs.six {w0 w : World} {P : Nat → Prop} {l : List Val} {ab ao : Nat} {css : List (List Value)} (h : Vs w0 w P l (some ⟨ab, ao, none⟩) css) (k : Nat) {z : Val} (hk : l[k]? = some z) (o1 o2 o3 o4 o5 o6 : Nat) (ho : o1 = ao + k * 6 ∧ o2 = ao + k * 6 + 1 ∧ o3 = ao + k * 6 + 2 ∧ o4 = ao + k * 6 + 3 ∧ o5 = ao + k * 6 + 4 ∧ o6 = ao + k * 6 + 5) :
    ∃ (A : Option Addr) (c : Nat) (p : Option Addr) (LA : Option Addr) (lc : Nat), VR w0 w P z [.int .i64 z.sort, .int .i64 z.n, .string (bstr z.s), .slice LA z.labels.length lc, .slice A z.l.length c, .pointer p] ∧
      (w.cell? ⟨ab, o1, none⟩ = some (.int .i64 z.sort) ∧ w.cell? ⟨ab, o2, none⟩ = some (.int .i64 z.n) ∧ w.cell? ⟨ab, o3, none⟩ = some (.string (bstr z.s)) ∧ w.cell? ⟨ab, o4, none⟩ = some (.slice LA z.labels.length lc) ∧ w.cell? ⟨ab, o5, none⟩ = some (.slice A z.l.length c) ∧ w.cell? ⟨ab, o6, none⟩ = some (.pointer p)) := by
  obtain ⟨r1, r2, r3, r4, r5, r6⟩ := ho
  subst r1 r2 r3 r4 r5 r6
  have hkl : k < l.length := (List.getElem?_eq_some_iff.1 hk).1
  have hz : l[k] = z := (List.getElem?_eq_some_iff.1 hk).2
  obtain ⟨cs, hcs, hv⟩ := h.lr.get hkl
  rw [hz] at hv
  obtain ⟨A, c, p, LA, lc, rfl⟩ := hv.six
  obtain ⟨b, o, e, hb, hh⟩ := h.rd.base (by rw [h.rd.1]; omega)
  injection e with e
  injection e with e1 e2
  subst e1 e2
  have h6 := VR.lens h.lr
  exact ⟨A, c, p, LA, lc, hv, hh (k * 6 + 0) _ (flat_at2 h6 hcs (j := 0) rfl), hh (k * 6 + 1) _ (flat_at2 h6 hcs (j := 1) rfl), hh (k * 6 + 2) _ (flat_at2 h6 hcs (j := 2) rfl), hh (k * 6 + 3) _ (flat_at2 h6 hcs (j := 3) rfl), hh (k * 6 + 4) _ (flat_at2 h6 hcs (j := 4) rfl), hh (k * 6 + 5) _ (flat_at2 h6 hcs (j := 5) rfl)⟩
section
variable {w0 w : World} {B mb : Nat} {s : St} {t i r v f nx nm : Value} {rcs vcs fcs : List (List Value)}
set_option maxHeartbeats 8000000 in
theorem applyRef_any (h : Rep w0 B mb s w t i r v f nx nm rcs vcs fcs) (hv : s.vals.length ≤ 100000000000) (hr : s.refs.length ≤ 100000000000) (e : Ex) (eb eo : Nat) (hd : e.d.At w eb eo) (x : Val) (css : List (List Value)) (ab ao c : Nat) (hl : Vs w0 w (Mv mb t r v f) [x] (some ⟨ab, ao, none⟩) css) (hkd : e.d.kind = 17) :
    Calls Tryd.prog 31 #[.agg #[.pointer (some ⟨mb, 0, none⟩)], .pointer (some ⟨eb, eo, none⟩), .slice (some ⟨ab, ao, none⟩) 1 c] w fun e1 w' => e1 = .returned (.tuple #[]) ∧ Post w0 B mb (Mv mb t r v f) w { s with refs := s.refs ++ [x], vals := s.vals ++ [.mk 6 s.refs.length [] [] [] none] } w' := by
  have hb : Below w.heap.size w (w.alloc (.cells #[.pointer (some ⟨mb, 0, none⟩)] 41)) := (Below.refl _ _).alloc (Nat.le_refl _) _
  obtain ⟨A0, kc0, p0, LA0, lkc0, hz0, g00, g01, g02, g03, g04, g05⟩ := (hl.below hb).six 0 (z := x) rfl ao (ao + 1) (ao + 2) (ao + 3) (ao + 4) (ao + 5) ⟨by omega, by omega, by omega, by omega, by omega, by omega⟩
  have HC := Lib.hid (fun (wr : World) (hb' : Below (w.alloc (.cells #[.pointer (some ⟨mb, 0, none⟩)] 41)).heap.size (w.alloc (.cells #[.pointer (some ⟨mb, 0, none⟩)] 41)) wr) => ref_any ((h.below hb).below hb') hr hv x (hz0.keep (Tr.below hb')))
  have c0 : (w.alloc (.cells #[.pointer (some ⟨mb, 0, none⟩)] 41)).cell? ⟨w.heap.size, 0, none⟩ = some (.pointer (some ⟨mb, 0, none⟩)) := (by rw [Lib.cell_of_heap (heap_new (w := w) (o := .cells #[.pointer (some ⟨mb, 0, none⟩)] 41) rfl)]; rfl)
  have k0 := (hd.lower hb).c0
  have k2 := (hd.lower hb).c3
  rw [hkd] at k0
  have HB := Lib.hid hb
  have HBM := Lib.hid (fun (wr : World) (hb : Below w.heap.size w wr) => And.intro (Tr.below (P := Mv mb t r v f) hb) (hb.mono (Nat.le_of_lt (Nat.lt_of_le_of_lt h.base.2 h.lt))))
  clear h hb hd hv hl hkd hz0 hr
  go_enter Tryd.func31, Tryd.ntmps31
  go_upto_region 17 with fail
  go_region_law (go_simp; go_at_call 41; (with_reducible refine (HC.out _ (below_drew1 _)).mono ?_); rintro e1 w2 ⟨rfl, hp⟩; have HP := Lib.hid hp; clear hp)
  all_goals
    go_wp2_with fail
    go_returns
    with_reducible exact ⟨rfl, HP.out.mono (HBM.out _ (Below.drew HB.out)).1 (HBM.out _ (Below.drew HB.out)).2⟩
set_option maxHeartbeats 8000000 in
theorem applyGet_any (h : Rep w0 B mb s w t i r v f nx nm rcs vcs fcs) (hv : s.vals.length ≤ 100000000000) (hr : s.refs.length ≤ 100000000000) (e : Ex) (eb eo : Nat) (hd : e.d.At w eb eo) (x : Val) (css : List (List Value)) (ab ao c : Nat) (hl : Vs w0 w (Mv mb t r v f) [x] (some ⟨ab, ao, none⟩) css) (hkd : e.d.kind = 18) (hz : x.sort = 6 → ∃ k : Nat, x.n = k ∧ k < s.refs.length) :
    Calls Tryd.prog 31 #[.agg #[.pointer (some ⟨mb, 0, none⟩)], .pointer (some ⟨eb, eo, none⟩), .slice (some ⟨ab, ao, none⟩) 1 c] w fun e1 w' => e1 = .returned (.tuple #[]) ∧ Post w0 B mb (Mv mb t r v f) w (s.get x) w' := by
  have hb : Below w.heap.size w (w.alloc (.cells #[.pointer (some ⟨mb, 0, none⟩)] 41)) := (Below.refl _ _).alloc (Nat.le_refl _) _
  obtain ⟨A0, kc0, p0, LA0, lkc0, hz0, g00, g01, g02, g03, g04, g05⟩ := (hl.below hb).six 0 (z := x) rfl ao (ao + 1) (ao + 2) (ao + 3) (ao + 4) (ao + 5) ⟨by omega, by omega, by omega, by omega, by omega, by omega⟩
  have HC := Lib.hid (fun (wr : World) (hb' : Below (w.alloc (.cells #[.pointer (some ⟨mb, 0, none⟩)] 41)).heap.size (w.alloc (.cells #[.pointer (some ⟨mb, 0, none⟩)] 41)) wr) => get_any ((h.below hb).below hb') hr hv x A0 kc0 p0 LA0 lkc0 hz)
  have c0 : (w.alloc (.cells #[.pointer (some ⟨mb, 0, none⟩)] 41)).cell? ⟨w.heap.size, 0, none⟩ = some (.pointer (some ⟨mb, 0, none⟩)) := (by rw [Lib.cell_of_heap (heap_new (w := w) (o := .cells #[.pointer (some ⟨mb, 0, none⟩)] 41) rfl)]; rfl)
  have k0 := (hd.lower hb).c0
  have k2 := (hd.lower hb).c3
  rw [hkd] at k0
  have HB := Lib.hid hb
  have HBM := Lib.hid (fun (wr : World) (hb : Below w.heap.size w wr) => And.intro (Tr.below (P := Mv mb t r v f) hb) (hb.mono (Nat.le_of_lt (Nat.lt_of_le_of_lt h.base.2 h.lt))))
  clear h hb hd hv hl hkd hz0 hr hz
  go_enter Tryd.func31, Tryd.ntmps31
  go_upto_region 19 with fail
  go_region_law (go_simp; go_at_call 42; (with_reducible refine (HC.out _ (below_drew1 _)).mono ?_); rintro e1 w2 ⟨rfl, hp⟩; have HP := Lib.hid hp; clear hp)
  all_goals
    go_wp2_with fail
    go_returns
    with_reducible exact ⟨rfl, HP.out.mono (HBM.out _ (Below.drew HB.out)).1 (HBM.out _ (Below.drew HB.out)).2⟩
set_option maxHeartbeats 8000000 in
theorem applyPrint_any (h : Rep w0 B mb s w t i r v f nx nm rcs vcs fcs) (hv : s.vals.length ≤ 100000000000) (ht : s.trace.length ≤ 100000000000) (e : Ex) (eb eo : Nat) (hd : e.d.At w eb eo) (x : Val) (css : List (List Value)) (ab ao c : Nat) (hl : Vs w0 w (Mv mb t r v f) [x] (some ⟨ab, ao, none⟩) css) (hkd : e.d.kind = 20) :
    Calls Tryd.prog 31 #[.agg #[.pointer (some ⟨mb, 0, none⟩)], .pointer (some ⟨eb, eo, none⟩), .slice (some ⟨ab, ao, none⟩) 1 c] w fun e1 w' => e1 = .returned (.tuple #[]) ∧ Post w0 B mb (Mv mb t r v f) w (s.print x) w' := by
  have hb : Below w.heap.size w (w.alloc (.cells #[.pointer (some ⟨mb, 0, none⟩)] 41)) := (Below.refl _ _).alloc (Nat.le_refl _) _
  obtain ⟨A0, kc0, p0, LA0, lkc0, hz0, g00, g01, g02, g03, g04, g05⟩ := (hl.below hb).six 0 (z := x) rfl ao (ao + 1) (ao + 2) (ao + 3) (ao + 4) (ao + 5) ⟨by omega, by omega, by omega, by omega, by omega, by omega⟩
  have HC := Lib.hid (fun (wr : World) (hb' : Below (w.alloc (.cells #[.pointer (some ⟨mb, 0, none⟩)] 41)).heap.size (w.alloc (.cells #[.pointer (some ⟨mb, 0, none⟩)] 41)) wr) => print_any ((h.below hb).below hb') ht hv x A0 kc0 p0 LA0 lkc0)
  have c0 : (w.alloc (.cells #[.pointer (some ⟨mb, 0, none⟩)] 41)).cell? ⟨w.heap.size, 0, none⟩ = some (.pointer (some ⟨mb, 0, none⟩)) := (by rw [Lib.cell_of_heap (heap_new (w := w) (o := .cells #[.pointer (some ⟨mb, 0, none⟩)] 41) rfl)]; rfl)
  have k0 := (hd.lower hb).c0
  have k2 := (hd.lower hb).c3
  rw [hkd] at k0
  have HB := Lib.hid hb
  have HBM := Lib.hid (fun (wr : World) (hb : Below w.heap.size w wr) => And.intro (Tr.below (P := Mv mb t r v f) hb) (hb.mono (Nat.le_of_lt (Nat.lt_of_le_of_lt h.base.2 h.lt))))
  clear h hb hd hv hl hkd hz0 ht
  go_enter Tryd.func31, Tryd.ntmps31
  go_upto_region 23 with fail
  go_region_law (go_simp; go_at_call 44; (with_reducible refine (HC.out _ (below_drew1 _)).mono ?_); rintro e1 w2 ⟨rfl, hp⟩; have HP := Lib.hid hp; clear hp)
  all_goals
    go_wp2_with fail
    go_returns
    with_reducible exact ⟨rfl, HP.out.mono (HBM.out _ (Below.drew HB.out)).1 (HBM.out _ (Below.drew HB.out)).2⟩
set_option maxHeartbeats 8000000 in
theorem applySet_any (h : Rep w0 B mb s w t i r v f nx nm rcs vcs fcs) (hv : s.vals.length ≤ 100000000000) (hr : s.refs.length ≤ 100000000000) (e : Ex) (eb eo : Nat) (hd : e.d.At w eb eo) (x y : Val) (css : List (List Value)) (ab ao c : Nat) (hl : Vs w0 w (Mv mb t r v f) [x, y] (some ⟨ab, ao, none⟩) css) (hkd : e.d.kind = 19) (hz : x.sort = 6 → ∃ k : Nat, x.n = k ∧ k < s.refs.length) :
    Calls Tryd.prog 31 #[.agg #[.pointer (some ⟨mb, 0, none⟩)], .pointer (some ⟨eb, eo, none⟩), .slice (some ⟨ab, ao, none⟩) 2 c] w fun e1 w' => e1 = .returned (.tuple #[]) ∧ Post w0 B mb (Mv mb t r v f) w (s.set x y) w' := by
  have hb : Below w.heap.size w (w.alloc (.cells #[.pointer (some ⟨mb, 0, none⟩)] 41)) := (Below.refl _ _).alloc (Nat.le_refl _) _
  obtain ⟨A0, kc0, p0, LA0, lkc0, hz0, g00, g01, g02, g03, g04, g05⟩ := (hl.below hb).six 0 (z := x) rfl ao (ao + 1) (ao + 2) (ao + 3) (ao + 4) (ao + 5) ⟨by omega, by omega, by omega, by omega, by omega, by omega⟩
  obtain ⟨A1, kc1, p1, LA1, lkc1, hz1, g10, g11, g12, g13, g14, g15⟩ := (hl.below hb).six 1 (z := y) rfl (ao + 6) (ao + 7) (ao + 8) (ao + 9) (ao + 10) (ao + 11) ⟨by omega, by omega, by omega, by omega, by omega, by omega⟩
  have HC := Lib.hid (fun (wr : World) (hb' : Below (w.alloc (.cells #[.pointer (some ⟨mb, 0, none⟩)] 41)).heap.size (w.alloc (.cells #[.pointer (some ⟨mb, 0, none⟩)] 41)) wr) => setR_any ((h.below hb).below hb') hr hv x y A0 kc0 p0 LA0 lkc0 A1 kc1 p1 LA1 lkc1 hz (hz1.keep (Tr.below hb')))
  have c0 : (w.alloc (.cells #[.pointer (some ⟨mb, 0, none⟩)] 41)).cell? ⟨w.heap.size, 0, none⟩ = some (.pointer (some ⟨mb, 0, none⟩)) := (by rw [Lib.cell_of_heap (heap_new (w := w) (o := .cells #[.pointer (some ⟨mb, 0, none⟩)] 41) rfl)]; rfl)
  have k0 := (hd.lower hb).c0
  have k2 := (hd.lower hb).c3
  rw [hkd] at k0
  have HB := Lib.hid hb
  have HBM := Lib.hid (fun (wr : World) (hb : Below w.heap.size w wr) => And.intro (Tr.below (P := Mv mb t r v f) hb) (hb.mono (Nat.le_of_lt (Nat.lt_of_le_of_lt h.base.2 h.lt))))
  clear h hb hd hv hl hkd hz0 hz1 hr hz
  go_enter Tryd.func31, Tryd.ntmps31
  go_upto_region 21 with fail
  go_region_law (go_simp; go_at_call 43; (with_reducible refine (HC.out _ (below_drew1 _)).mono ?_); rintro e1 w2 ⟨rfl, hp⟩; have HP := Lib.hid hp; clear hp)
  all_goals
    go_wp2_with fail
    go_returns
    with_reducible exact ⟨rfl, HP.out.mono (HBM.out _ (Below.drew HB.out)).1 (HBM.out _ (Below.drew HB.out)).2⟩
set_option maxHeartbeats 8000000 in
theorem applyCall_any (h : Rep w0 B mb s w t i r v f nx nm rcs vcs fcs) (hv : s.vals.length ≤ 100000000000) (e : Ex) (eb eo : Nat) (hd : e.d.At w eb eo) (x y : Val) (css : List (List Value)) (ab ao c : Nat) (hl : Vs w0 w (Mv mb t r v f) [x, y] (some ⟨ab, ao, none⟩) css) (hkd : e.d.kind = 5) (hf : x.sort = 3 → x.f ≠ none) :
    Calls Tryd.prog 31 #[.agg #[.pointer (some ⟨mb, 0, none⟩)], .pointer (some ⟨eb, eo, none⟩), .slice (some ⟨ab, ao, none⟩) 2 c] w fun e1 w' => e1 = .returned (.tuple #[]) ∧ Post w0 B mb (Mv mb t r v f) w (s.call x y) w' := by
  have hb : Below w.heap.size w (w.alloc (.cells #[.pointer (some ⟨mb, 0, none⟩)] 41)) := (Below.refl _ _).alloc (Nat.le_refl _) _
  obtain ⟨A0, kc0, p0, LA0, lkc0, hz0, g00, g01, g02, g03, g04, g05⟩ := (hl.below hb).six 0 (z := x) rfl ao (ao + 1) (ao + 2) (ao + 3) (ao + 4) (ao + 5) ⟨by omega, by omega, by omega, by omega, by omega, by omega⟩
  obtain ⟨A1, kc1, p1, LA1, lkc1, hz1, g10, g11, g12, g13, g14, g15⟩ := (hl.below hb).six 1 (z := y) rfl (ao + 6) (ao + 7) (ao + 8) (ao + 9) (ao + 10) (ao + 11) ⟨by omega, by omega, by omega, by omega, by omega, by omega⟩
  have HC := Lib.hid (fun (wr : World) (hb' : Below (w.alloc (.cells #[.pointer (some ⟨mb, 0, none⟩)] 41)).heap.size (w.alloc (.cells #[.pointer (some ⟨mb, 0, none⟩)] 41)) wr) => call_any ((h.below hb).below hb') x y A0 kc0 p0 LA0 lkc0 A1 kc1 p1 LA1 lkc1 hf (hz0.keep (Tr.below hb')) (hz1.keep (Tr.below hb')))
  have c0 : (w.alloc (.cells #[.pointer (some ⟨mb, 0, none⟩)] 41)).cell? ⟨w.heap.size, 0, none⟩ = some (.pointer (some ⟨mb, 0, none⟩)) := (by rw [Lib.cell_of_heap (heap_new (w := w) (o := .cells #[.pointer (some ⟨mb, 0, none⟩)] 41) rfl)]; rfl)
  have k0 := (hd.lower hb).c0
  have k2 := (hd.lower hb).c3
  rw [hkd] at k0
  have HB := Lib.hid hb
  have HBM := Lib.hid (fun (wr : World) (hb : Below w.heap.size w wr) => And.intro (Tr.below (P := Mv mb t r v f) hb) (hb.mono (Nat.le_of_lt (Nat.lt_of_le_of_lt h.base.2 h.lt))))
  clear h hb hd hv hl hkd hz0 hz1 hf
  go_enter Tryd.func31, Tryd.ntmps31
  go_upto_region 3 with fail
  go_region_law (go_simp; go_at_call 36; (with_reducible refine (HC.out _ (below_drew1 _)).mono ?_); rintro e1 w2 ⟨rfl, hp⟩; have HP := Lib.hid hp; clear hp)
  all_goals
    go_wp2_with fail
    go_returns
    with_reducible exact ⟨rfl, HP.out.mono (HBM.out _ (Below.drew HB.out)).1 (HBM.out _ (Below.drew HB.out)).2⟩
set_option maxHeartbeats 8000000 in
theorem applyOper_any (h : Rep w0 B mb s w t i r v f nx nm rcs vcs fcs) (hv : s.vals.length ≤ 100000000000) (e : Ex) (eb eo : Nat) (hd : e.d.At w eb eo) (x y : Val) (css : List (List Value)) (ab ao c : Nat) (hl : Vs w0 w (Mv mb t r v f) [x, y] (some ⟨ab, ao, none⟩) css) (hkd : e.d.kind = 16) (h1 : x.s.length ≤ 4000000) (h2 : y.s.length ≤ 4000000) (h3 : -9223372036854775808 ≤ x.n ∧ x.n ≤ 9223372036854775807) (h4 : -9223372036854775808 ≤ y.n ∧ y.n ≤ 9223372036854775807) :
    Calls Tryd.prog 31 #[.agg #[.pointer (some ⟨mb, 0, none⟩)], .pointer (some ⟨eb, eo, none⟩), .slice (some ⟨ab, ao, none⟩) 2 c] w fun e1 w' => e1 = .returned (.tuple #[]) ∧ Post w0 B mb (Mv mb t r v f) w (s.oper e.d.s x y) w' := by
  have hb : Below w.heap.size w (w.alloc (.cells #[.pointer (some ⟨mb, 0, none⟩)] 41)) := (Below.refl _ _).alloc (Nat.le_refl _) _
  obtain ⟨A0, kc0, p0, LA0, lkc0, hz0, g00, g01, g02, g03, g04, g05⟩ := (hl.below hb).six 0 (z := x) rfl ao (ao + 1) (ao + 2) (ao + 3) (ao + 4) (ao + 5) ⟨by omega, by omega, by omega, by omega, by omega, by omega⟩
  obtain ⟨A1, kc1, p1, LA1, lkc1, hz1, g10, g11, g12, g13, g14, g15⟩ := (hl.below hb).six 1 (z := y) rfl (ao + 6) (ao + 7) (ao + 8) (ao + 9) (ao + 10) (ao + 11) ⟨by omega, by omega, by omega, by omega, by omega, by omega⟩
  have HC := Lib.hid (fun (wr : World) (hb' : Below (w.alloc (.cells #[.pointer (some ⟨mb, 0, none⟩)] 41)).heap.size (w.alloc (.cells #[.pointer (some ⟨mb, 0, none⟩)] 41)) wr) => oper_any ((h.below hb).below hb') hv e.d.s x y A0 kc0 p0 LA0 lkc0 A1 kc1 p1 LA1 lkc1 h1 h2 h3 h4)
  have c0 : (w.alloc (.cells #[.pointer (some ⟨mb, 0, none⟩)] 41)).cell? ⟨w.heap.size, 0, none⟩ = some (.pointer (some ⟨mb, 0, none⟩)) := (by rw [Lib.cell_of_heap (heap_new (w := w) (o := .cells #[.pointer (some ⟨mb, 0, none⟩)] 41) rfl)]; rfl)
  have k0 := (hd.lower hb).c0
  have k2 := (hd.lower hb).c3
  rw [hkd] at k0
  have HB := Lib.hid hb
  have HBM := Lib.hid (fun (wr : World) (hb : Below w.heap.size w wr) => And.intro (Tr.below (P := Mv mb t r v f) hb) (hb.mono (Nat.le_of_lt (Nat.lt_of_le_of_lt h.base.2 h.lt))))
  clear h hb hd hv hl hkd hz0 hz1 h1 h2 h3 h4
  go_enter Tryd.func31, Tryd.ntmps31
  go_upto_region 15 with fail
  go_region_law (go_simp; go_at_call 40; (with_reducible refine (HC.out _ (below_drew1 _)).mono ?_); rintro e1 w2 ⟨rfl, hp⟩; have HP := Lib.hid hp; clear hp)
  all_goals
    go_wp2_with fail
    go_returns
    with_reducible exact ⟨rfl, HP.out.mono (HBM.out _ (Below.drew HB.out)).1 (HBM.out _ (Below.drew HB.out)).2⟩
end
end Go.Proofs.YtjmgnohepoacbaaDoor

namespace Go.Proofs.YtjmgnohepoacbaaDoor
open Go.ChangeShapes Go.WideShapes Go.ChangeAt Go.RowKit Go.Sort
set_option linter.unusedVariables false
set_option linter.unusedSimpArgs false

abbrev Tab (w : World) : Prop := Lib.TabIs Tryd.prog w "internal/strconv.uint64pow10" .u64 Lib.pow10Tab
theorem gTab : Tryd.prog.globalNamed "internal/strconv.uint64pow10" = some 1 := by kernel_rfl
theorem tab_below {w w' : World} (h : Tab w) (hb : Below w.heap.size w w') : Tab w' := by
  unfold Tab Lib.TabIs World.var? at h ⊢
  rw [gTab] at h ⊢
  simp only [Option.bind_some] at h ⊢
  have hlt : 1 < w.heap.size := by
    rcases Nat.lt_or_ge 1 w.heap.size with h' | h'
    · exact h'
    · rw [Array.getElem?_eq_none h'] at h; cases h
  rw [hb.block _ hlt]
  exact h
theorem below_growN {w : World} (k : Nat) (os : Array Obj) : Below w.heap.size w (grow (w.drewN k) os) := by
  have h := below_regrown w (w.drewN k).drawn os
  exact h
theorem itoa_len (n : Int) (h : -9223372036854775808 ≤ n ∧ n ≤ 9223372036854775807) : (Lib.itoa n).length ≤ 21 := Lib.itoa_length_le n h.1 h.2
def St.shw (s : St) (z : Val) : St := s.tell (.mk 2 0 (Lib.itoa z.n) [] [] none) 0 (z.sort == 1)
section
variable {w0 w : World} {B mb : Nat} {s : St} {t i r v f nx nm : Value} {rcs vcs fcs : List (List Value)}
set_option maxHeartbeats 4000000 in
theorem show_any (h : Rep w0 B mb s w t i r v f nx nm rcs vcs fcs) (hv : s.vals.length ≤ 100000000000) (hT : Tab w) (z : Val) (A : Option Addr) (c : Nat) (p : Option Addr) (LA : Option Addr) (lc : Nat) (hn : -9223372036854775808 ≤ z.n ∧ z.n ≤ 9223372036854775807) :
    Calls Tryd.prog 45 #[.pointer (some ⟨mb, 0, none⟩), .agg #[.int .i64 z.sort, .int .i64 z.n, .string (bstr z.s), .slice LA z.labels.length lc, .slice A z.l.length c, .pointer p]] w fun e w' => e = .returned (.tuple #[]) ∧ Post w0 B mb (Mv mb t r v f) w (s.shw z) w' := by
  have hb : Below w.heap.size w (w.alloc (.cells #[.int .i64 z.sort, .int .i64 z.n, .string (bstr z.s), .slice LA z.labels.length lc, .slice A z.l.length c, .pointer p] 45)) := (Below.refl _ _).alloc (Nat.le_refl _) _
  obtain ⟨a0, a1, a2, a3, a4, a5⟩ := cells6 (heap_new (w := w) (o := .cells #[.int .i64 z.sort, .int .i64 z.n, .string (bstr z.s), .slice LA z.labels.length lc, .slice A z.l.length c, .pointer p] 45) rfl)
  obtain ⟨I, hI⟩ : ∃ I, Lib.itoa z.n = I := ⟨_, rfl⟩
  have HC := Lib.hid (fun (wr : World) (hb' : Below w.heap.size w wr) => (show Calls Tryd.prog 48 #[.int .i64 z.n, .int .i64 10] wr fun e w' => e = .returned (.string (bstr I)) ∧ Below wr.heap.size wr w' from by rw [← hI]; exact (Tryd.strconv_FormatInt_10 z.n hn.1 hn.2 wr (tab_below hT hb')).mono fun e w' ⟨he, k, os, hw⟩ => ⟨he, by rw [hw]; exact below_growN k os⟩))
  have HT := Lib.hid (fun (wr : World) (hb' : Below w.heap.size w wr) => (show Calls Tryd.prog 35 #[.pointer (some ⟨mb, 0, none⟩), .agg #[.int .i64 2, .int .i64 0, .string (bstr I), .slice none 0 0, .slice none 0 0, .pointer none], .int .i64 0, .bool (z.sort == 1)] wr fun e w' => e = .returned (.tuple #[]) ∧ Post w0 B mb (Mv mb t r v f) wr (s.shw z) w' from by unfold St.shw; rw [hI]; exact tellG_any (h.below hb') hv 2 0 I 0 (z.sort == 1)))
  have HB := Lib.hid hb
  have HBM := Lib.hid (fun (wr : World) (hb : Below w.heap.size w wr) => And.intro (Tr.below (P := Mv mb t r v f) hb) (hb.mono (Nat.le_of_lt (Nat.lt_of_le_of_lt h.base.2 h.lt))))
  have HA0 := Lib.hid a0
  clear h hv hT hb hI hn
  go_enter Tryd.func45, Tryd.ntmps45
  go_upto_region 1 with fail
  go_region_law (first
    | (go_simp; go_at_call 48; (with_reducible refine (HC.out _ (Below.drew HB.out)).mono ?_); rintro e1 w2 ⟨rfl, hb2⟩; have hb3 := below_then (Below.drew HB.out) hb2; have e0 : w2.cell? ⟨w.heap.size, 0, none⟩ = some (.int .i64 z.sort) := cell_below hb2 HA0.out; have HB2 := Lib.hid hb3; clear hb2 hb3)
    | (go_simp; go_at_call 35; (with_reducible refine (HT.out _ HB2.out).mono ?_); rintro e1 w3 ⟨rfl, hp⟩; have HP := Lib.hid hp; clear hp))
  all_goals
    go_wp2_with fail
    go_returns
    with_reducible exact ⟨rfl, HP.out.mono (HBM.out _ HB2.out).1 (HBM.out _ HB2.out).2⟩
end
end Go.Proofs.YtjmgnohepoacbaaDoor

namespace Go.Proofs.YtjmgnohepoacbaaDoor
open Go.ChangeShapes Go.WideShapes Go.ChangeAt Go.RowKit Go.Sort
set_option linter.unusedVariables false
set_option linter.unusedSimpArgs false

theorem vgrow_any (w : World) (n : Nat) (hn : n ≤ 100000000000) :
    Calls Tryd.prog 71 #[.slice none 0 0, .int .i64 n] w fun e w' => ∃ u, e = .returned u ∧ w'.ownsRow w.heap.size 45 6 u 0 [] ∧ Below w.heap.size w w' := by
  rcases Nat.eq_zero_or_pos n with h0 | h0
  · subst h0
    refine (Any8.slices_Grow_room Tryd.growV none 0 0 0 w (Nat.le_refl _) (by omega) (by omega) (by omega)).mono ?_
    rintro e w' ⟨rfl, rfl⟩
    exact ⟨_, rfl, World.ownsRow_nil _ _ _ _, Below.refl _ _⟩
  · obtain ⟨i, hi, hz, hs, hb⟩ := info_parts elVal.info
    refine (Any8.slices_Grow_grow Tryd.growV i _ hi hz (by rw [hs]; decide) none 0 0 n [] w (Nat.le_refl _) (by omega) (by rw [hb]; omega) (by omega) (by simp) (fun _ => rfl) (fun a h => by cases h)).mono ?_
    rintro e w' ⟨rfl, rfl⟩
    have hle := grownCap_le_maxLen w (0 + n) 0 (Tryd.growV_ren.t 25) (by simp only [maxLen]; omega)
    have hge := grownCap_ge w (0 + n) 0 (Tryd.growV_ren.t 25)
    refine ⟨_, rfl, World.ownsRow_made (base := w.heap.size) (e := 45) (size := 6) w.drew _ _ (Nat.le_refl _) hle ?_, ((Below.refl _ _).drew.alloc (Nat.le_refl _) _)⟩
    rw [Array.size_append, Array.size_append, size_zeroCells, size_zeroCells, elVal.zs]
    generalize grownCap w (0 + n) 0 (Tryd.growV_ren.t 25) = G at *
    simp
    omega
theorem own_mono {w : World} {base B : Nat} {e : TypeId} {size n : Nat} {v : Value} {xs : List Value} (h : w.ownsRow base e size v n xs) (hB : B ≤ base) : w.ownsRow B e size v n xs := by
  refine ⟨h.1, ?_⟩
  rcases h.2 with hn | ⟨g, cap, cur, rfl, hb, rest⟩
  · exact .inl hn
  · exact .inr ⟨g, cap, cur, rfl, by omega, rest⟩
/-- A row of values, where it lies. -/
structure Rw where
  A : Option Addr
  l : List Val
  c : Nat
  css : List (List Value)
def Rw.cell (r : Rw) : Value := .slice r.A r.l.length r.c
theorem LR.app {α : Type} {R : α → List Value → Prop} {l l2 : List α} {css css2 : List (List Value)} (h : LR R l css) (h2 : LR R l2 css2) : LR R (l ++ l2) (css ++ css2) := by
  refine ⟨by rw [List.length_append, List.length_append, h.len, h2.len], fun i a c e1 e2 => ?_⟩
  by_cases hi : i < l.length
  · rw [List.getElem?_append_left hi] at e1
    rw [List.getElem?_append_left (by rw [h.len]; exact hi)] at e2
    exact h.at_ i a c e1 e2
  · rw [List.getElem?_append_right (by omega)] at e1
    rw [List.getElem?_append_right (by rw [h.len]; omega), h.len] at e2
    exact h2.at_ _ a c e1 e2
theorem rows_lr {w0 w : World} {P : Nat → Prop} : ∀ (rows : List Rw), (∀ r ∈ rows, Vs w0 w P r.l r.A r.css) → LR (VR w0 w P) (rows.flatMap Rw.l) (rows.flatMap Rw.css)
  | [], _ => LR.nil
  | r :: rows, h => by
    rw [List.flatMap_cons, List.flatMap_cons]
    exact (h r (List.mem_cons_self ..)).lr.app (rows_lr rows (fun x hx => h x (List.mem_cons_of_mem _ hx)))
theorem rows_take (rows : List Rw) (k : Nat) (r : Rw) (hk : rows[k]? = some r) : (rows.take (k + 1)).flatMap Rw.l = (rows.take k).flatMap Rw.l ++ r.l ∧ (rows.take (k + 1)).flatMap Rw.css = (rows.take k).flatMap Rw.css ++ r.css := by
  rw [List.take_add_one, hk]
  simp
theorem rows_le (rows : List Rw) (k : Nat) : ((rows.take k).flatMap Rw.l).length ≤ (rows.flatMap Rw.l).length := by
  conv => rhs; rw [← List.take_append_drop k rows, List.flatMap_append, List.length_append]
  omega
theorem vs_ones {w0 w : World} {P : Nat → Prop} {l : List Val} {A : Option Addr} {css : List (List Value)} (h : Vs w0 w P l A css) : ∀ u ∈ css.flatten, u.oneCell' = true := vrs_ones h.lr
set_option maxRecDepth 100000 in
set_option maxHeartbeats 4000000 in
theorem vconcat_any (w0 w : World) (P : Nat → Prop) (rows : List Rw) (A : Option Addr) (c : Nat) (hR : Rd w 1 A rows.length (rows.map Rw.cell)) (hV : ∀ r ∈ rows, Vs w0 w P r.l r.A r.css) (hm : (rows.flatMap Rw.l).length ≤ 100000000000) (hr : rows.length ≤ 4000000) :
    Calls Tryd.prog 61 #[.slice A rows.length c] w fun e w' => ∃ A' c', e = .returned (.slice A' (rows.flatMap Rw.l).length c') ∧ Vs w0 w' P (rows.flatMap Rw.l) A' (rows.flatMap Rw.css) ∧ (0 < (rows.flatMap Rw.l).length → ∀ a, A' = some a → w.heap.size ≤ a.block) ∧ ((rows.flatMap Rw.l).length ≤ c' ∧ c' ≤ maxLen) ∧ Below w.heap.size w w' := by
  have HR := Lib.hid hR
  have HV := Lib.hid hV
  have HM := Lib.hid hm
  have HK : ∀ (wr : World), Below w.heap.size w wr → ∀ (k : Nat), k < rows.length → ∃ (b o : Nat) (r : Rw), A = some ⟨b, o, none⟩ ∧ rows[k]? = some r ∧ wr.cell? ⟨b, o + k, none⟩ = some (.slice r.A r.l.length r.c) ∧ Vs w0 wr P r.l r.A r.css := by
    intro wr hb k hk
    obtain ⟨b, o, e, hbl, hh⟩ := (HR.out.below hb).base (by rw [List.length_map]; omega)
    refine ⟨b, o, rows[k], e, List.getElem?_eq_getElem hk, ?_, (HV.out _ (List.getElem_mem hk)).below hb⟩
    have := hh k (Rw.cell rows[k]) (by rw [List.getElem?_map, List.getElem?_eq_getElem hk]; rfl)
    exact this
  have HKK := Lib.hid HK
  clear hR hV hm HK
  go_enter Tryd.func61, Tryd.ntmps61
  go_wp2_with fail
  go_loopw [3, 5, 11] (fun m _ i wr => ∃ k : Nat, i = .int .i64 k ∧ k ≤ rows.length ∧ m = .int .i64 ((rows.take k).flatMap Rw.l).length ∧ Below w.heap.size w wr) (fun _ _ i _ => rows.length - (intOf i).toNat)
  case atStart => exact ⟨0, rfl, by omega, rfl, Below.refl _ _⟩
  case round =>
    obtain ⟨k, rfl, hk, rfl, hb⟩ := hrel
    by_cases hlt : k < rows.length
    · obtain ⟨b, o, r, rfl, hkr, hcell, hvs⟩ := HKK.out _ hb k hlt
      have ht := (rows_take rows k r hkr).1
      have hle := rows_le rows (k + 1)
      rw [ht, List.length_append] at hle
      have hT : ((rows.take (k + 1)).flatMap Rw.l).length = ((rows.take k).flatMap Rw.l).length + r.l.length := by rw [ht, List.length_append]
      have HB := Lib.hid hb
      have HT := Lib.hid hT
      obtain ⟨T, hTT⟩ : ∃ T, ((rows.take k).flatMap Rw.l).length = T := ⟨_, rfl⟩
      obtain ⟨R, hRR⟩ : ∃ R, r.l.length = R := ⟨_, rfl⟩
      rw [hTT, hRR] at HT hle
      rw [hRR] at hcell
      rw [hTT]
      have hb1 : (T : Int) + R ≤ 100000000000 := by have := HM.out; omega
      have hb0 : (0 : Int) ≤ (T : Int) + R := by omega
      clear hT ht hvs hb hTT hRR hkr hle
      go_wp2_with fail
      go_roundw
      case rel => exact ⟨k + 1, by go_num, by omega, by rw [HT.out]; go_num, HB.out⟩
      case measure => simp [intOf] <;> omega
    · have hkk : k = rows.length := by omega
      subst hkk
      rw [List.take_length]
      obtain ⟨T, hTT⟩ : ∃ T, (rows.flatMap Rw.l).length = T := ⟨_, rfl⟩
      have HB := Lib.hid hb
      have HG := Lib.hid (fun (wr : World) => vgrow_any wr T (by have := HM.out; omega))
      rw [hTT]
      have HTT := Lib.hid hTT
      clear hb hTT hk
      go_wp2_with (go_at_call 71; (with_reducible refine (HG.out _).mono ?_); rintro e w1 ⟨u, rfl, hown, hb1⟩; have HO := Lib.hid (And.intro (own_mono hown HB.out.size) (below_then HB.out hb1)); clear hown hb1)
      go_loopw [6, 8, 27] (fun u _ i wr => ∃ k : Nat, i = .int .i64 k ∧ k ≤ rows.length ∧ wr.ownsRow w.heap.size 45 6 u ((rows.take k).flatMap Rw.l).length ((rows.take k).flatMap Rw.css).flatten ∧ Below w.heap.size w wr) (fun _ _ i _ => rows.length - (intOf i).toNat)
      case atStart => exact ⟨0, rfl, by omega, HO.out.1, HO.out.2⟩
      case round =>
        obtain ⟨k, rfl, hk, hown, hb⟩ := hrel
        by_cases hlt2 : k < rows.length
        · obtain ⟨b, o, r, rfl, hkr, hcell, hvs⟩ := HKK.out _ hb k hlt2
          obtain ⟨ht, ht2⟩ := rows_take rows k r hkr
          have hle := rows_le rows (k + 1)
          rw [ht, List.length_append] at hle
          have HT := Lib.hid (And.intro ht (And.intro ht2 hle))
          have HVS := Lib.hid hvs
          have HOW := Lib.hid hown
          have HB2 := Lib.hid hb
          clear ht ht2 hvs hown hb hkr hle
          go_wp2_with (at_builtin; refine wpList_app elVal _ rfl (.tmp 31) (.tmp 32) rfl w.heap.size _ _ _ rfl HOW.out r.A r.l.length r.c _ rfl HVS.out.rd (vs_ones HVS.out) (by have := HT.out.2.2; have := HM.out; omega) HB2.out.size ?_; intro v6 w6 hown6 hb6 hg6 hat6; have H6 := Lib.hid (And.intro hown6 hb6); clear hown6 hb6 hg6 hat6)
          go_roundw
          case rel => exact ⟨k + 1, by go_num, by omega, by rw [HT.out.1, HT.out.2.1, List.length_append, List.flatten_append]; exact H6.out.1, HB2.out.trans H6.out.2⟩
          case measure => simp [intOf] <;> omega
        · have hkk : k = rows.length := by omega
          subst hkk
          rw [List.take_length] at hown
          obtain ⟨A', c', rfl, hc'⟩ := own_cap hown
          have HOW := Lib.hid hown
          have HB2 := Lib.hid hb
          have HC9 := Lib.hid hc'
          clear hown hb hk hc'
          go_wp2_with fail
          go_returns
          exact ⟨A', c', rfl, ⟨Rd.of_own HOW.out, rows_lr rows (fun r hr => (HV.out r hr).below HB2.out)⟩, fun _ a' ha' => (by subst ha'; exact (HOW.out.lt a'.block rfl).1), ⟨HC9.out.1, HC9.out.2.1⟩, HB2.out⟩
end Go.Proofs.YtjmgnohepoacbaaDoor

namespace Go.Proofs.YtjmgnohepoacbaaDoor
open Go.ChangeShapes Go.WideShapes Go.ChangeAt Go.RowKit Go.Sort
set_option linter.unusedVariables false
set_option linter.unusedSimpArgs false

theorem strs_ones (l : List Str) : ∀ u ∈ strs l, u.oneCell' = true := by
  intro u hu
  simp only [strs, List.mem_map] at hu
  obtain ⟨x, _, rfl⟩ := hu
  rfl
theorem sgrow_any (w : World) (n : Nat) (hn : n ≤ 100000000000) :
    Calls Tryd.prog 70 #[.slice none 0 0, .int .i64 n] w fun e w' => ∃ u, e = .returned u ∧ w'.ownsRow w.heap.size 9 1 u 0 [] ∧ Below w.heap.size w w' := by
  rcases Nat.eq_zero_or_pos n with h0 | h0
  · subst h0
    refine (Any8.slices_Grow_room Tryd.growS none 0 0 0 w (Nat.le_refl _) (by omega) (by omega) (by omega)).mono ?_
    rintro e w' ⟨rfl, rfl⟩
    exact ⟨_, rfl, World.ownsRow_nil _ _ _ _, Below.refl _ _⟩
  · obtain ⟨i, hi, hz, hs, hb⟩ := info_parts elStr.info
    refine (Any8.slices_Grow_grow Tryd.growS i _ hi hz (by rw [hs]; decide) none 0 0 n [] w (Nat.le_refl _) (by omega) (by rw [hb]; omega) (by omega) (by simp) (fun _ => rfl) (fun a h => by cases h)).mono ?_
    rintro e w' ⟨rfl, rfl⟩
    have hle := grownCap_le_maxLen w (0 + n) 0 (Tryd.growS_ren.t 25) (by simp only [maxLen]; omega)
    have hge := grownCap_ge w (0 + n) 0 (Tryd.growS_ren.t 25)
    refine ⟨_, rfl, World.ownsRow_made (base := w.heap.size) (e := 9) (size := 1) w.drew _ _ (Nat.le_refl _) hle ?_, ((Below.refl _ _).drew.alloc (Nat.le_refl _) _)⟩
    rw [Array.size_append, Array.size_append, size_zeroCells, size_zeroCells, elStr.zs]
    generalize grownCap w (0 + n) 0 (Tryd.growS_ren.t 25) = G at *
    simp
    omega
/-- A row of texts, where it lies. -/
structure Rs where
  A : Option Addr
  l : List Str
  c : Nat
def Rs.cell (r : Rs) : Value := .slice r.A r.l.length r.c
theorem rs_take (rows : List Rs) (k : Nat) (r : Rs) (hk : rows[k]? = some r) : (rows.take (k + 1)).flatMap Rs.l = (rows.take k).flatMap Rs.l ++ r.l := by
  rw [List.take_add_one, hk]
  simp
theorem rs_le (rows : List Rs) (k : Nat) : ((rows.take k).flatMap Rs.l).length ≤ (rows.flatMap Rs.l).length := by
  conv => rhs; rw [← List.take_append_drop k rows, List.flatMap_append, List.length_append]
  omega
set_option maxRecDepth 100000 in
set_option maxHeartbeats 4000000 in
theorem sconcat_any (w : World) (rows : List Rs) (A : Option Addr) (c : Nat) (hR : Rd w 1 A rows.length (rows.map Rs.cell)) (hV : ∀ r ∈ rows, Rd w 1 r.A r.l.length (strs r.l)) (hm : (rows.flatMap Rs.l).length ≤ 100000000000) (hr : rows.length ≤ 4000000) :
    Calls Tryd.prog 60 #[.slice A rows.length c] w fun e w' => ∃ A' c', e = .returned (.slice A' (rows.flatMap Rs.l).length c') ∧ Rd w' 1 A' (rows.flatMap Rs.l).length (strs (rows.flatMap Rs.l)) ∧ (0 < (rows.flatMap Rs.l).length → ∀ a, A' = some a → w.heap.size ≤ a.block ∧ a.off = 0) ∧ ((rows.flatMap Rs.l).length ≤ c' ∧ c' ≤ maxLen) ∧ Below w.heap.size w w' := by
  have HR := Lib.hid hR
  have HV := Lib.hid hV
  have HM := Lib.hid hm
  have HK : ∀ (wr : World), Below w.heap.size w wr → ∀ (k : Nat), k < rows.length → ∃ (b o : Nat) (r : Rs), A = some ⟨b, o, none⟩ ∧ rows[k]? = some r ∧ wr.cell? ⟨b, o + k, none⟩ = some (.slice r.A r.l.length r.c) ∧ Rd wr 1 r.A r.l.length (strs r.l) := by
    intro wr hb k hk
    obtain ⟨b, o, e, hbl, hh⟩ := (HR.out.below hb).base (by rw [List.length_map]; omega)
    refine ⟨b, o, rows[k], e, List.getElem?_eq_getElem hk, ?_, (HV.out _ (List.getElem_mem hk)).below hb⟩
    have := hh k (Rs.cell rows[k]) (by rw [List.getElem?_map, List.getElem?_eq_getElem hk]; rfl)
    exact this
  have HKK := Lib.hid HK
  clear hR hV hm HK
  go_enter Tryd.func60, Tryd.ntmps60
  go_wp2_with fail
  go_loopw [3, 5, 11] (fun m _ i wr => ∃ k : Nat, i = .int .i64 k ∧ k ≤ rows.length ∧ m = .int .i64 ((rows.take k).flatMap Rs.l).length ∧ Below w.heap.size w wr) (fun _ _ i _ => rows.length - (intOf i).toNat)
  case atStart => exact ⟨0, rfl, by omega, rfl, Below.refl _ _⟩
  case round =>
    obtain ⟨k, rfl, hk, rfl, hb⟩ := hrel
    by_cases hlt : k < rows.length
    · obtain ⟨b, o, r, rfl, hkr, hcell, hvs⟩ := HKK.out _ hb k hlt
      have ht := rs_take rows k r hkr
      have hle := rs_le rows (k + 1)
      rw [ht, List.length_append] at hle
      have hT : ((rows.take (k + 1)).flatMap Rs.l).length = ((rows.take k).flatMap Rs.l).length + r.l.length := by rw [ht, List.length_append]
      have HB := Lib.hid hb
      have HT := Lib.hid hT
      obtain ⟨T, hTT⟩ : ∃ T, ((rows.take k).flatMap Rs.l).length = T := ⟨_, rfl⟩
      obtain ⟨R, hRR⟩ : ∃ R, r.l.length = R := ⟨_, rfl⟩
      rw [hTT, hRR] at HT hle
      rw [hRR] at hcell
      rw [hTT]
      have hb1 : (T : Int) + R ≤ 100000000000 := by have := HM.out; omega
      have hb0 : (0 : Int) ≤ (T : Int) + R := by omega
      clear hT ht hvs hb hTT hRR hkr hle
      go_wp2_with fail
      go_roundw
      case rel => exact ⟨k + 1, by go_num, by omega, by rw [HT.out]; go_num, HB.out⟩
      case measure => simp [intOf] <;> omega
    · have hkk : k = rows.length := by omega
      subst hkk
      rw [List.take_length]
      obtain ⟨T, hTT⟩ : ∃ T, (rows.flatMap Rs.l).length = T := ⟨_, rfl⟩
      have HB := Lib.hid hb
      have HG := Lib.hid (fun (wr : World) => sgrow_any wr T (by have := HM.out; omega))
      rw [hTT]
      have HTT := Lib.hid hTT
      clear hb hTT hk
      go_wp2_with (go_at_call 70; (with_reducible refine (HG.out _).mono ?_); rintro e w1 ⟨u, rfl, hown, hb1⟩; have HO := Lib.hid (And.intro (own_mono hown HB.out.size) (below_then HB.out hb1)); clear hown hb1)
      go_loopw [6, 8, 27] (fun u _ i wr => ∃ k : Nat, i = .int .i64 k ∧ k ≤ rows.length ∧ wr.ownsRow w.heap.size 9 1 u ((rows.take k).flatMap Rs.l).length (strs ((rows.take k).flatMap Rs.l)) ∧ Below w.heap.size w wr) (fun _ _ i _ => rows.length - (intOf i).toNat)
      case atStart => exact ⟨0, rfl, by omega, HO.out.1, HO.out.2⟩
      case round =>
        obtain ⟨k, rfl, hk, hown, hb⟩ := hrel
        by_cases hlt2 : k < rows.length
        · obtain ⟨b, o, r, rfl, hkr, hcell, hvs⟩ := HKK.out _ hb k hlt2
          have ht := rs_take rows k r hkr
          have hle := rs_le rows (k + 1)
          rw [ht, List.length_append] at hle
          have HT := Lib.hid (And.intro ht (And.intro trivial hle))
          have HVS := Lib.hid hvs
          have HOW := Lib.hid hown
          have HB2 := Lib.hid hb
          clear ht hvs hown hb hkr hle
          go_wp2_with (at_builtin; refine wpList_app elStr _ rfl (.tmp 31) (.tmp 32) rfl w.heap.size _ _ _ rfl HOW.out r.A r.l.length r.c _ rfl HVS.out (strs_ones r.l) (by have := HT.out.2.2; have := HM.out; omega) HB2.out.size ?_; intro v6 w6 hown6 hb6 hg6 hat6; have H6 := Lib.hid (And.intro hown6 hb6); clear hown6 hb6 hg6 hat6)
          go_roundw
          case rel => exact ⟨k + 1, by go_num, by omega, by rw [HT.out.1, List.length_append, strs_append]; exact H6.out.1, HB2.out.trans H6.out.2⟩
          case measure => simp [intOf] <;> omega
        · have hkk : k = rows.length := by omega
          subst hkk
          rw [List.take_length] at hown
          obtain ⟨A', c', rfl, hc'⟩ := own_cap hown
          have HOW := Lib.hid hown
          have HB2 := Lib.hid hb
          have HC9 := Lib.hid hc'
          clear hown hb hk hc'
          go_wp2_with fail
          go_returns
          exact ⟨A', c', rfl, Rd.of_own HOW.out, fun _ a' ha' => (by subst ha'; exact ⟨(HOW.out.lt a'.block rfl).1, own_off HOW.out a' rfl⟩), ⟨HC9.out.1, HC9.out.2.1⟩, HB2.out⟩
end Go.Proofs.YtjmgnohepoacbaaDoor

namespace Go.Proofs.YtjmgnohepoacbaaDoor
open Go.ChangeShapes Go.WideShapes Go.ChangeAt Go.RowKit Go.Sort
set_option linter.unusedVariables false
set_option linter.unusedSimpArgs false

theorem isNaN_any (s : ByteArray) (w : World) : Calls Tryd.prog 80 #[.string s] w fun e w' => e = .returned (.bool false) ∧ w' = w := by
  go_enter Tryd.func80, Tryd.ntmps80
  have h : (s.toList == s.toList) = true := by simp
  go_wp2
  go_returns
  exact ⟨rfl, rfl⟩

theorem cmpLess_any (a b : Str) (w : World) : Calls Tryd.prog 68 #[.string (bstr a), .string (bstr b)] w fun e w' => e = .returned (.bool (slt a b)) ∧ w' = w := by
  go_enter Tryd.func68, Tryd.ntmps68
  go_wp2_with fail
  refine (isNaN_any _ _).mono ?_
  rintro e w' ⟨rfl, rfl⟩
  have hge := bytesLess_bstr a b
  go_wp2_with fail
  go_returns
  exact ⟨rfl, rfl⟩

theorem slIsNaN_any (s : ByteArray) (w : World) : Calls Tryd.prog 69 #[.string s] w fun e w' => e = .returned (.bool false) ∧ w' = w := by
  go_enter Tryd.func69, Tryd.ntmps69
  have h : (s.toList == s.toList) = true := by simp
  go_wp2
  go_returns
  exact ⟨rfl, rfl⟩

/-- The search: so many rounds at most, between two places. -/
def bsS (l : List Str) (s : Str) : Nat → Nat → Nat → Nat
  | 0, i, _ => i
  | f + 1, i, j => if i < j then (if slt (l[(i + j) / 2]?.getD []) s = true then bsS l s f ((i + j) / 2 + 1) j else bsS l s f i ((i + j) / 2)) else i
def atS (l : List Str) (s : Str) : Nat := bsS l s l.length 0 l.length
def isS (l : List Str) (s : Str) : Bool := decide (l[atS l s]? = some s)
theorem bsS_end (l : List Str) (s : Str) (f i j : Nat) (h : ¬ i < j) : bsS l s f i j = i := by
  cases f with
  | zero => rfl
  | succ f => simp [bsS, h]
theorem bsS_le (l : List Str) (s : Str) : ∀ (f i j : Nat), i ≤ j → bsS l s f i j ≤ j
  | 0, i, j, h => h
  | f + 1, i, j, h => by
    unfold bsS
    split
    · split
      · exact bsS_le l s f _ _ (by omega)
      · exact Nat.le_trans (bsS_le l s f _ _ (by omega)) (by omega)
    · exact h
theorem atS_le (l : List Str) (s : Str) : atS l s ≤ l.length := bsS_le l s _ _ _ (Nat.zero_le _)
theorem isS_lt {l : List Str} {s : Str} (h : isS l s = true) : atS l s < l.length := (List.getElem?_eq_some_iff.1 (of_decide_eq_true h)).1
set_option maxHeartbeats 1000000 in
theorem searchS_any (A : Option Addr) (l : List Str) (s : Str) (n c : Nat) (w : World) (hr : Rd w 1 A n (strs l)) (hm : n ≤ 100000000000) :
    Calls Tryd.prog 59 #[.slice A n c, .string (bstr s)] w fun e w' => e = .returned (.tuple #[.int .i64 (atS l s), .bool (isS l s)]) ∧ w' = w := by
  have hl := rd_len hr
  subst hl
  go_enter Tryd.func59, Tryd.ntmps59
  go_wp2_with fail
  go_loopw [7, 8] (fun u v wr => ∃ i j f : Nat, u = .int .i64 i ∧ v = .int .i64 j ∧ i ≤ j ∧ j ≤ l.length ∧ j - i ≤ f ∧ bsS l s f i j = atS l s ∧ wr = w) (fun u v _ => (intOf v - intOf u).toNat)
  case atStart => exact ⟨0, l.length, l.length, rfl, rfl, by omega, by omega, by omega, rfl, rfl⟩
  case round =>
    obtain ⟨i, j, f, rfl, rfl, hij, hj, hf, hs, rfl⟩ := hrel
    by_cases hlt : i < j
    · obtain ⟨f, rfl⟩ : ∃ g, f = g + 1 := ⟨f - 1, by omega⟩
      obtain ⟨h, e0, e1, hh1, hh2⟩ : ∃ h : Nat, (i + j) / 2 = h ∧ ((i : Int) + (j : Int)) / 2 = (h : Int) ∧ i ≤ h ∧ h < j := ⟨(i + j) / 2, rfl, by omega, by omega, by omega⟩
      unfold bsS at hs
      rw [if_pos hlt, e0, List.getElem?_eq_getElem (show h < l.length by omega)] at hs
      obtain ⟨b, o, rfl, hc⟩ := hr.str (k := h) (by omega)
      have hc1 := hc h (by omega)
      obtain ⟨x, hx⟩ : ∃ x, l[h]'(by omega) = x := ⟨_, rfl⟩
      rw [hx] at hc1
      have hs' : (if slt x s = true then bsS l s f (h + 1) j else bsS l s f i h) = atS l s := by rw [← hx]; exact hs
      have HS := Lib.hid hs'
      clear hc hr hs hs' hx e0
      have i1 : (h : Int) < (l.length : Int) := by omega
      go_wp2_with fail
      refine (cmpLess_any _ _ _).mono ?_
      rintro e w' ⟨rfl, rfl⟩
      cases hd : slt x s
      · go_wp2_with fail
        go_roundw
        case rel => exact ⟨i, h, f, rfl, rfl, hh1, by omega, by omega, by have := HS.out; rw [hd] at this; exact this, (by first | rfl | trivial)⟩
        case measure => simp [intOf] <;> omega
      · go_wp2_with fail
        go_roundw
        case rel => exact ⟨h + 1, j, f, by go_num, rfl, by omega, hj, by omega, by have := HS.out; rw [hd] at this; exact this, (by first | rfl | trivial)⟩
        case measure => simp [intOf] <;> omega
    · obtain rfl : i = j := by omega
      have ei : atS l s = i := by rw [← hs]; exact bsS_end l s f i i hlt
      by_cases hi : i < l.length
      · obtain ⟨b, o, rfl, hc⟩ := hr.str (k := i) hi
        have hc1 := hc i hi
        have hes : isS l s = decide (l[i] = s) := by
          unfold isS
          rw [ei, List.getElem?_eq_getElem hi]
          simp
        have HE := Lib.hid (And.intro ei hes)
        clear hc hr hs ei hes
        by_cases hq0 : l[i] = s
        · have hq : ((bstr l[i]).toList == (bstr s).toList) = true := by rw [beq_bstr]; simpa using hq0
          go_wp2_with fail
          go_returns
          exact ⟨by rw [HE.out.1, HE.out.2, decide_eq_true hq0]; rfl, rfl⟩
        · have hq : ((bstr l[i]).toList == (bstr s).toList) = false := by rw [beq_bstr]; simpa using hq0
          go_wp2_with fail
          refine (slIsNaN_any _ _).mono ?_
          rintro e w' ⟨rfl, rfl⟩
          go_wp2_with fail
          go_returns
          exact ⟨by rw [HE.out.1, HE.out.2, decide_eq_false hq0]; rfl, rfl⟩
      · have hes : isS l s = false := by
          unfold isS
          rw [ei, List.getElem?_eq_none (by omega)]
          rfl
        have HE := Lib.hid (And.intro ei hes)
        clear hr hs ei hes
        go_wp2_with fail
        go_returns
        exact ⟨by rw [HE.out.1, HE.out.2]; rfl, rfl⟩
end Go.Proofs.YtjmgnohepoacbaaDoor

namespace Go.Proofs.YtjmgnohepoacbaaDoor
open Go.ChangeShapes Go.WideShapes Go.ChangeAt Go.RowKit Go.Sort
set_option linter.unusedVariables false
set_option linter.unusedSimpArgs false

abbrev encF {m : Nat} (x : Fin (m + 1)) : Value := .int .i64 ((x.val : Nat) : Int)
def cmpL (labels : List Str) (i j : Nat) : Int := Lib.compareBytes (labels[i]?.getD []) (labels[j]?.getD [])
abbrev cfL (labels : List Str) {m : Nat} (x y : Fin (m + 1)) : Int := cmpL labels x.val y.val
theorem sw_below {α : Type} [Inhabited α] {enc : α → Value} {w0 W : World} {blk off : Nat} {dk : Array α} (h : SW enc w0 blk off dk W) (hb : blk < w0.heap.size) : Below blk w0 W := by
  obtain ⟨n, os, rfl⟩ := h
  refine ⟨rfl, rfl, rfl, by unfold sortWorld; simp, fun b hlt => ?_⟩
  unfold sortWorld
  rw [heap_grow_old _ _ (by simp; omega)]
  have : blk ≠ b := by omega
  simp [putRow, mapBlock, Sort.ahead, Array.getElem?_modify, this]
/-- The cell that holds the labels. -/
def LbB (w : World) (lb S : Nat) (labels : List Str) : Prop := lb < S ∧ ∃ LA lc T, w.heap[lb]? = some (.cells #[.slice LA labels.length lc] T) ∧ Rd w 1 LA labels.length (strs labels) ∧ (0 < labels.length → ∀ a, LA = some a → a.block < S)
theorem LbB.keep {w w' : World} {lb S : Nat} {labels : List Str} (h : LbB w lb S labels) (hb : Below S w w') : LbB w' lb S labels := by
  obtain ⟨h1, LA, lc, T, h2, h3, h4⟩ := h
  exact ⟨h1, LA, lc, T, (hb.block lb h1).trans h2, rd_keepP (P := fun b => b < S) h3 h4 (fun b hb' _ => hb.block b hb'), h4⟩
set_option maxHeartbeats 1000000 in
theorem cmpC_any (w : World) (lb S : Nat) (labels : List Str) (h : LbB w lb S labels) (i j : Nat) (hi : i < labels.length) (hj : j < labels.length) (hm : labels.length ≤ 100000000000) :
    Calls Tryd.prog 57 #[.int .i64 (i : Nat), .int .i64 (j : Nat), .pointer (some ⟨lb, 0, none⟩)] w fun e w' => e = .returned (.int .i64 (cmpL labels i j)) ∧ ∃ q os', w' = grow (w.drewN q) os' := by
  obtain ⟨_, LA, lc, T, hh, hr, _⟩ := h
  obtain ⟨b, o, rfl, hc⟩ := hr.str (k := i) hi
  have c1 := hc i hi
  have c2 := hc j hj
  have c0 : w.cell? ⟨lb, 0, none⟩ = some (.slice (some ⟨b, o, none⟩) labels.length lc) := by rw [Lib.cell_of_heap hh]; rfl
  have l0 := cell_grown (block_lt_of_cell c0) c0
  have l1 := cell_grown (block_lt_of_cell c1) c1
  have l2 := cell_grown (block_lt_of_cell c2) c2
  have e1 : labels[i]?.getD [] = labels[i] := by rw [List.getElem?_eq_getElem hi]; rfl
  have e2 : labels[j]?.getD [] = labels[j] := by rw [List.getElem?_eq_getElem hj]; rfl
  have HR := Lib.hid (show cmpL labels i j = Lib.compareBytes labels[i] labels[j] by unfold cmpL; rw [e1, e2])
  obtain ⟨x, hx⟩ : ∃ x, labels[i] = x := ⟨_, rfl⟩
  obtain ⟨y, hy⟩ : ∃ y, labels[j] = y := ⟨_, rfl⟩
  rw [hx] at l1 HR
  rw [hy] at l2 HR
  have hs : ∀ W : World, Calls Tryd.prog 58 #[.string (bstr x), .string (bstr y)] W fun e w' => e = .returned (.int .i64 (Lib.compareBytes x y)) ∧ ∃ q os', w' = grow (W.drewN q) os' := fun W =>
    (Tryd.strings_Compare (bstr x) (bstr y) W).mono fun e w' ⟨he, hw⟩ => ⟨by rw [he]; simp [bstr], 0, #[], by rw [grow_empty]; exact hw⟩
  have HS := Lib.hid hs
  have i1 : (i : Int) < (labels.length : Int) := by omega
  have i2 : (j : Int) < (labels.length : Int) := by omega
  clear hc c0 c1 c2 hh hr hs e1 e2 hx hy
  go_enter Tryd.func57, Tryd.ntmps57
  have mixed : Tryd.prog.follows .mixedOrders = true := by kernel_rfl
  go_wp2_with fail
  go_quiet_grown (first | (go_at_call 58; refine Calls.grown_of (HS.out _)))
  go_wp2_with fail
  go_returns
  exact ⟨by rw [HR.out]; rfl, nq, osq, rfl⟩
theorem cmp_enters : ∀ args w, (callFunc 57 args).run Tryd.prog w = .ok (.enter 57 args) w := enters_of Tryd.func57 (by kernel_rfl) rfl
theorem cmp_lays {m : Nat} {w : World} {lb blk off size : Nat} {labels : List Str} (hl : labels.length = m + 1) (h : LbB w lb blk labels) (hb : blk < w.heap.size) (hm : labels.length ≤ 100000000000) :
    CmpLays1 Tryd.prog 57 #[.pointer (some ⟨lb, 0, none⟩)] (encF (m := m)) (cfL labels) blk off size w := by
  intro q os dk hs x y
  exact cmpC_any _ lb blk labels (h.keep (sw_below ⟨q, os, rfl⟩ hb)) x.val y.val (by omega) (by omega) hm
end Go.Proofs.YtjmgnohepoacbaaDoor

namespace Go.Proofs.YtjmgnohepoacbaaDoor
open Go.ChangeShapes Go.WideShapes Go.ChangeAt Go.RowKit Go.Sort
set_option linter.unusedVariables false
set_option linter.unusedSimpArgs false

/-- A search between two places by halves: so many rounds at most. -/
def bsF (p : Nat → Bool) : Nat → Nat → Nat → Nat
  | 0, i, _ => i
  | f + 1, i, j => if i < j then (if p ((i + j) / 2) = true then bsF p f ((i + j) / 2 + 1) j else bsF p f i ((i + j) / 2)) else i
theorem bsF_end (p : Nat → Bool) (f i j : Nat) (h : ¬ i < j) : bsF p f i j = i := by
  cases f with
  | zero => rfl
  | succ f => simp [bsF, h]
theorem bsF_in (p : Nat → Bool) : ∀ (f i j : Nat), i ≤ j → i ≤ bsF p f i j ∧ bsF p f i j ≤ j
  | 0, i, j, h => ⟨Nat.le_refl _, h⟩
  | f + 1, i, j, h => by
    unfold bsF
    split
    · split
      · have := bsF_in p f ((i + j) / 2 + 1) j (by omega); omega
      · have := bsF_in p f i ((i + j) / 2) (by omega); omega
    · omega
theorem bsF_yes (p : Nat → Bool) (f i j : Nat) (h : i < j) (hp : p ((i + j) / 2) = true) : bsF p (f + 1) i j = bsF p f ((i + j) / 2 + 1) j := by
  rw [bsF, if_pos h, if_pos hp]
theorem bsF_no (p : Nat → Bool) (f i j : Nat) (h : i < j) (hp : p ((i + j) / 2) = false) : bsF p (f + 1) i j = bsF p f i ((i + j) / 2) := by
  rw [bsF, if_pos h, if_neg (by rw [hp]; decide)]
section
variable {α : Type} [Inhabited α]
def upSw : Nat → Nat → Array α → Array α
  | 0, _, d => d
  | c + 1, k, d => upSw c (k + 1) (swp d k (k + 1))
def dnSw : Nat → Nat → Array α → Array α
  | 0, _, d => d
  | c + 1, k, d => dnSw c (k - 1) (swp d k (k - 1))
def swR (a b : Nat) : Nat → Nat → Array α → Array α
  | 0, _, d => d
  | c + 1, i, d => swR a b c (i + 1) (swp d (a + i) (b + i))
def rotF (m : Nat) : Nat → Nat → Nat → Array α → Array α
  | 0, _, _, d => d
  | f + 1, i, j, d => if i = j then swR (m - i) m i 0 d else if j < i then rotF m f (i - j) j (swR (m - i) m j 0 d) else rotF m f i (j - i) (swR (m - i) (m + j - i) i 0 d)
theorem size_upSw : ∀ (c k : Nat) (d : Array α), (upSw c k d).size = d.size
  | 0, _, _ => rfl
  | c + 1, k, d => (size_upSw c (k + 1) _).trans (size_swp _ _ _)
theorem size_dnSw : ∀ (c k : Nat) (d : Array α), (dnSw c k d).size = d.size
  | 0, _, _ => rfl
  | c + 1, k, d => (size_dnSw c (k - 1) _).trans (size_swp _ _ _)
theorem size_swR (a b : Nat) : ∀ (c i : Nat) (d : Array α), (swR a b c i d).size = d.size
  | 0, _, _ => rfl
  | c + 1, i, d => (size_swR a b c (i + 1) _).trans (size_swp _ _ _)
theorem size_rotF (m : Nat) : ∀ (f i j : Nat) (d : Array α), (rotF m f i j d).size = d.size
  | 0, _, _, _ => rfl
  | f + 1, i, j, d => by
    unfold rotF
    split
    · exact size_swR _ _ _ _ _
    · split
      · exact (size_rotF m f _ _ _).trans (size_swR _ _ _ _ _)
      · exact (size_rotF m f _ _ _).trans (size_swR _ _ _ _ _)
def stOf (lt : α → α → Bool) (a m b : Nat) (d : Array α) : Nat :=
  bsF (fun c => !lt d[(a + b) / 2 + m - 1 - c]! d[c]!) ((a + b) / 2 + m) (if (a + b) / 2 < m then (a + b) / 2 + m - b else a) (if (a + b) / 2 < m then (a + b) / 2 else m)
def rotD (m st en : Nat) (d : Array α) : Array α := if st < m ∧ m < en then rotF m (en - st) (m - st) (en - m) d else d
def symF (lt : α → α → Bool) : Nat → Nat → Nat → Nat → Array α → Array α
  | 0, _, _, _, d => d
  | f + 1, a, m, b, d =>
    if m - a = 1 then upSw (bsF (fun h => lt d[h]! d[a]!) b m b - 1 - a) a d
    else if b - m = 1 then dnSw (m - bsF (fun h => !lt d[m]! d[h]!) m a m) m d
    else
      let st := stOf lt a m b d
      let mid := (a + b) / 2
      let en := mid + m - st
      let d1 := rotD m st en d
      let d2 := if a < st ∧ st < mid then symF lt f a st mid d1 else d1
      if mid < en ∧ en < b then symF lt f mid en b d2 else d2
theorem size_rotD (m st en : Nat) (d : Array α) : (rotD m st en d).size = d.size := by
  unfold rotD
  split
  · exact size_rotF _ _ _ _ _
  · rfl
theorem size_symF (lt : α → α → Bool) : ∀ (f a m b : Nat) (d : Array α), (symF lt f a m b d).size = d.size
  | 0, _, _, _, _ => rfl
  | f + 1, a, m, b, d => by
    unfold symF
    split
    · exact size_upSw _ _ _
    · split
      · exact size_dnSw _ _ _
      · have h1 := size_rotD m (stOf lt a m b d) ((a + b) / 2 + m - stOf lt a m b d) d
        have h2 : (if a < stOf lt a m b d ∧ stOf lt a m b d < (a + b) / 2 then symF lt f a (stOf lt a m b d) ((a + b) / 2) (rotD m (stOf lt a m b d) ((a + b) / 2 + m - stOf lt a m b d) d) else rotD m (stOf lt a m b d) ((a + b) / 2 + m - stOf lt a m b d) d).size = d.size := by
          split
          · exact (size_symF lt f _ _ _ _).trans h1
          · exact h1
        show (if _ ∧ _ then _ else _ : Array α).size = _
        split
        · exact (size_symF lt f _ _ _ _).trans h2
        · exact h2
/-- Where the search begins and ends, and what stays in the row. -/
theorem stOf_in (lt : α → α → Bool) {a m b : Nat} (d : Array α) (h1 : a + 2 ≤ m) (h2 : m + 2 ≤ b) : a ≤ stOf lt a m b d ∧ stOf lt a m b d ≤ m ∧ stOf lt a m b d ≤ (a + b) / 2 ∧ (a + b) / 2 + m - stOf lt a m b d ≤ b ∧ stOf lt a m b d ≤ (a + b) / 2 + m := by
  unfold stOf
  by_cases h : (a + b) / 2 < m
  · rw [if_pos h, if_pos h]
    have := bsF_in (fun c => !lt d[(a + b) / 2 + m - 1 - c]! d[c]!) ((a + b) / 2 + m) ((a + b) / 2 + m - b) ((a + b) / 2) (by omega)
    omega
  · rw [if_neg h, if_neg h]
    have := bsF_in (fun c => !lt d[(a + b) / 2 + m - 1 - c]! d[c]!) ((a + b) / 2 + m) a m (by omega)
    omega
def blk1 (lt : α → α → Bool) (n : Nat) : Nat → Nat → Nat → Array α → Array α
  | 0, a, _, d => insertionSort lt d a n
  | f + 1, a, b, d => if b ≤ n then blk1 lt n f b (b + 20) (insertionSort lt d a b) else insertionSort lt d a n
def mrg (lt : α → α → Bool) (n bs : Nat) : Nat → Nat → Nat → Array α → Array α
  | 0, a, _, d => if a + bs < n then symF lt (n - a) a (a + bs) n d else d
  | f + 1, a, b, d => if b ≤ n then mrg lt n bs f b (b + 2 * bs) (symF lt (b - a) a (a + bs) b d) else if a + bs < n then symF lt (n - a) a (a + bs) n d else d
def rnds (lt : α → α → Bool) (n : Nat) : Nat → Nat → Array α → Array α
  | 0, _, d => d
  | f + 1, bs, d => if bs < n then rnds lt n f (bs * 2) (mrg lt n bs n 0 (2 * bs) d) else d
def stabF (lt : α → α → Bool) (n : Nat) (d : Array α) : Array α := rnds lt n n 20 (blk1 lt n n 0 20 d)
theorem blk1_end (lt : α → α → Bool) (n f a b : Nat) (d : Array α) (h : ¬ b ≤ n) : blk1 lt n f a b d = insertionSort lt d a n := by
  cases f with
  | zero => rfl
  | succ f => rw [blk1, if_neg h]
theorem mrg_end (lt : α → α → Bool) (n bs f a b : Nat) (d : Array α) (h : ¬ b ≤ n) : mrg lt n bs f a b d = if a + bs < n then symF lt (n - a) a (a + bs) n d else d := by
  cases f with
  | zero => rfl
  | succ f => rw [mrg, if_neg h]
theorem rnds_end (lt : α → α → Bool) (n f bs : Nat) (d : Array α) (h : ¬ bs < n) : rnds lt n f bs d = d := by
  cases f with
  | zero => rfl
  | succ f => rw [rnds, if_neg h]
end
end Go.Proofs.YtjmgnohepoacbaaDoor

namespace Go.Proofs.YtjmgnohepoacbaaDoor
open Go.ChangeShapes Go.WideShapes Go.ChangeAt Go.RowKit Go.Sort
set_option linter.unusedVariables false
set_option linter.unusedSimpArgs false

set_option maxHeartbeats 16000000 in
set_option maxRecDepth 1000000 in
theorem swapR_any {m : Nat} (w0 w : World) (blk off cap : Nat) (d0 d : Array (Fin (m + 1))) (R : Row1 (encF (m := m)) w0 blk off d0) (hs : d.size = d0.size) (S : SW (encF (m := m)) w0 blk off d w) (hsz : d.size ≤ 100000000000) (a b n : Nat) (ha : a + n ≤ d.size) (hb : b + n ≤ d.size) (F : Value) :
    Calls Tryd.prog 89 #[.slice (some ⟨blk, off, none⟩) d.size cap, .int .i64 (a : Nat), .int .i64 (b : Nat), .int .i64 (n : Nat), F] w fun e w' => e = .returned (.tuple #[]) ∧ SW (encF (m := m)) w0 blk off (swR a b n 0 d) w' := by
  have mixed : Tryd.prog.follows .mixedOrders = true := by kernel_rfl
  have S0 : Aside (SW (encF (m := m)) w0 blk off d w) := S
  clear S
  go_enter Tryd.func89, Tryd.ntmps89
  go_wp2_with fail
  go_loopg [10] n (fun g1 vi wr => ∃ (i : Nat) (dk : Array (Fin (m + 1))), vi = .int .i64 i ∧ i ≤ n ∧ n - i ≤ g1 ∧ dk.size = d.size ∧ Aside (SW (encF (m := m)) w0 blk off dk wr) ∧ Hid (swR a b (n - i) i dk = swR a b n 0 d))
  case atStart => exact ⟨0, d, rfl, by omega, by omega, rfl, S0, rfl⟩
  case round =>
    clear S0
    obtain ⟨i, dk, rfl, hin, hg1, hsk, S1, HO⟩ := hrel
    by_cases hlt : i < n
    · have hltz : (i : Int) < (n : Int) := by omega
      obtain ⟨iN7, hiN7⟩ : ∃ q, q = a + i := ⟨_, rfl⟩
      have ei7 : ((a : Int) + (i : Int)).toNat = iN7 := by omega
      have pi7 : (0 : Int) ≤ (a : Int) + (i : Int) := by omega
      have bi7 : (a : Int) + (i : Int) < (d.size : Int) := by omega
      have ri7 : IntKind.i64.wrap ((a : Int) + (i : Int)) = (a : Int) + (i : Int) := by rw [IntKind.wrap_i64]; omega
      obtain ⟨jN7, hjN7⟩ : ∃ q, q = b + i := ⟨_, rfl⟩
      have ej7 : ((b : Int) + (i : Int)).toNat = jN7 := by omega
      have pj7 : (0 : Int) ≤ (b : Int) + (i : Int) := by omega
      have bj7 : (b : Int) + (i : Int) < (d.size : Int) := by omega
      have rj7 : IntKind.i64.wrap ((b : Int) + (i : Int)) = (b : Int) + (i : Int) := by rw [IntKind.wrap_i64]; omega
      obtain ⟨x7, hx7⟩ : ∃ x, x = dk[a + i]! := ⟨_, rfl⟩
      obtain ⟨y7, hy7⟩ : ∃ x, x = dk[b + i]! := ⟨_, rfl⟩
      have S37 : Aside (SW (encF (m := m)) w0 blk off (swp dk (a + i) (b + i)) ((wr.setCell ⟨blk, off + iN7, none⟩ (encF y7)).setCell ⟨blk, off + jN7, none⟩ (encF x7)).drew) := by rw [hiN7, hjN7, hx7, hy7]; exact S1.out.swapped R (a + i) (b + i) (by omega) (by omega)
      have c7a := S1.out.c1 R (by omega) (a + i) (by omega)
      have c7b := S1.out.c1 R (by omega) (b + i) (by omega)
      have f7a := S1.out.f1 R (by omega) (a + i) (by omega)
      have f7b := S1.out.f1 R (by omega) (b + i) (by omega)
      obtain ⟨u7, c7c⟩ := S1.out.c2 R (by omega) (a + i) (b + i) (by omega) (by omega) (encF y7)
      rw [← hjN7, ← hiN7] at c7c
      rw [← hx7, ← hiN7] at c7a
      rw [← hy7, ← hjN7] at c7b
      rw [← hiN7] at f7a
      rw [← hjN7] at f7b
      clear S1 hx7 hy7 hiN7 hjN7
      go_wp2_with fail
      go_big_region_o
      clear c7a c7b c7c f7a f7b
      generalize ((wr.setCell ⟨blk, off + iN7, none⟩ (encF y7)).setCell ⟨blk, off + jN7, none⟩ (encF x7)).drew = w37 at S37 ⊢
      clear ei7 ej7 pi7 pj7 bi7 bj7 ri7 rj7
      go_wp2_with fail
      go_roundg (n - (i + 1))
      case measure => omega
      case rel => exact ⟨i + 1, swp dk (a + i) (b + i), by go_num, by omega, by omega, by rw [size_swp]; exact hsk, S37, (show Hid _ from by
        have e : n - i = (n - (i + 1)) + 1 := by omega
        have h := HO.out
        rw [e, swR] at h
        exact h)⟩
    · have hltz : ¬ (i : Int) < (n : Int) := by omega
      have e : n - i = 0 := by omega
      have h := HO.out
      rw [e, swR] at h
      have HX := Lib.hid h
      clear h HO
      go_wp2_with fail
      go_returns
      exact ⟨rfl, by rw [← HX.out]; exact S1.out⟩
set_option maxHeartbeats 16000000 in
set_option maxRecDepth 1000000 in
theorem rot_any {m : Nat} (w0 w : World) (blk off cap : Nat) (d0 d : Array (Fin (m + 1))) (R : Row1 (encF (m := m)) w0 blk off d0) (hs : d.size = d0.size) (S : SW (encF (m := m)) w0 blk off d w) (hsz : d.size ≤ 100000000000) (a m0 b : Nat) (ha : a < m0) (hb : m0 < b) (hbs : b ≤ d.size) (F : Value) :
    Calls Tryd.prog 86 #[.slice (some ⟨blk, off, none⟩) d.size cap, .int .i64 (a : Nat), .int .i64 (m0 : Nat), .int .i64 (b : Nat), F] w fun e w' => e = .returned (.tuple #[]) ∧ SW (encF (m := m)) w0 blk off (rotF m0 (b - a) (m0 - a) (b - m0) d) w' := by
  have HC := Lib.hid (fun (w : World) (dk : Array (Fin (m + 1))) (hsk : dk.size = d.size) (S : SW (encF (m := m)) w0 blk off dk w) (a b n : Nat) (ha : a + n ≤ d.size) (hb : b + n ≤ d.size) => (show Calls Tryd.prog 89 #[.slice (some ⟨blk, off, none⟩) d.size cap, .int .i64 (a : Nat), .int .i64 (b : Nat), .int .i64 (n : Nat), F] w fun e w' => e = .returned (.tuple #[]) ∧ SW (encF (m := m)) w0 blk off (swR a b n 0 dk) w' from by
    have := swapR_any w0 w blk off cap d0 dk R (hsk.trans hs) S (by omega) a b n (by omega) (by omega) F
    rw [hsk] at this
    exact this))
  have S0 : Aside (SW (encF (m := m)) w0 blk off d w) := S
  clear S hs
  go_enter Tryd.func86, Tryd.ntmps86
  go_wp2_with fail
  go_loopg [10, 11] (b - a) (fun g1 vi vj wr => ∃ (i j f : Nat) (dk : Array (Fin (m + 1))), vi = .int .i64 i ∧ vj = .int .i64 j ∧ (1 ≤ i ∧ i ≤ m0) ∧ (1 ≤ j ∧ m0 + j ≤ b) ∧ i + j ≤ f ∧ i + j ≤ g1 ∧ dk.size = d.size ∧ Aside (SW (encF (m := m)) w0 blk off dk wr) ∧ Hid (rotF m0 f i j dk = rotF m0 (b - a) (m0 - a) (b - m0) d))
  case atStart => exact ⟨m0 - a, b - m0, b - a, d, by go_num, by go_num, by omega, by omega, by omega, by omega, rfl, S0, rfl⟩
  case round =>
    clear S0
    obtain ⟨i, j, f, dk, rfl, rfl, hi, hj, hf, hg1, hsk, S1, HO⟩ := hrel
    obtain ⟨f, rfl⟩ : ∃ g, f = g + 1 := ⟨f - 1, by omega⟩
    by_cases hij : i = j
    · subst hij
      have fe : (((i : Nat) : Int) != ((i : Nat) : Int)) = false := by simp
      have h := HO.out
      rw [rotF, if_pos rfl] at h
      have HX := Lib.hid h
      have HT := Lib.hid (HC.out wr dk hsk S1.out (m0 - i) m0 i (by omega) (by omega))
      rw [show ((m0 - i : Nat) : Int) = (m0 : Int) - (i : Int) by omega] at HT
      clear h HO HC
      go_wp2_with (go_at_call 89; (with_reducible refine HT.out.mono ?_); rintro e1 w1 ⟨rfl, hsw⟩; have S2 := Lib.hid hsw; clear hsw)
      go_returns
      exact ⟨rfl, by rw [← HX.out]; exact S2.out⟩
    · have fe : (((i : Nat) : Int) != ((j : Nat) : Int)) = true := by simp; omega
      by_cases hlt : j < i
      · have hltz : (j : Int) < (i : Int) := by omega
        have hgt : ((i : Int) > (j : Int)) := hltz
        have h := HO.out
        rw [rotF, if_neg hij, if_pos hlt] at h
        have HX := Lib.hid h
        have HT := Lib.hid (HC.out wr dk hsk S1.out (m0 - i) m0 j (by omega) (by omega))
        rw [show ((m0 - i : Nat) : Int) = (m0 : Int) - (i : Int) by omega] at HT
        clear h HO
        go_wp2_with (go_at_call 89; (with_reducible refine HT.out.mono ?_); rintro e1 w1 ⟨rfl, hsw⟩; have S2 := Lib.hid hsw; clear hsw HT)
        go_roundg (i - j + j)
        case measure => omega
        case rel => exact ⟨i - j, j, f, swR (m0 - i) m0 j 0 dk, by go_num, rfl, by omega, hj, by omega, by omega, by rw [size_swR]; exact hsk, S2.out, HX.out⟩
      · have hltz : ¬ (j : Int) < (i : Int) := by omega
        have h := HO.out
        rw [rotF, if_neg hij, if_neg hlt] at h
        have HX := Lib.hid h
        have HT := Lib.hid (HC.out wr dk hsk S1.out (m0 - i) (m0 + j - i) i (by omega) (by omega))
        rw [show ((m0 - i : Nat) : Int) = (m0 : Int) - (i : Int) by omega, show ((m0 + j - i : Nat) : Int) = (m0 : Int) + (j : Int) - (i : Int) by omega] at HT
        clear h HO
        go_wp2_with (go_at_call 89; (with_reducible refine HT.out.mono ?_); rintro e1 w1 ⟨rfl, hsw⟩; have S2 := Lib.hid hsw; clear hsw HT)
        go_roundg (i + (j - i))
        case measure => omega
        case rel => exact ⟨i, j - i, f, swR (m0 - i) (m0 + j - i) i 0 dk, rfl, by go_num, hi, by omega, by omega, by omega, by rw [size_swR]; exact hsk, S2.out, HX.out⟩
end Go.Proofs.YtjmgnohepoacbaaDoor
