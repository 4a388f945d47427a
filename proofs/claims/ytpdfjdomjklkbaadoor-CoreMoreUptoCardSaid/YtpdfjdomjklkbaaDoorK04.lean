/-
  core's machine begins a function that has a name of its own.
  core's machine begins an expression: all kinds.
  core's machine: what an expression comes to, of which all parts have: one or two values handed on. (Made by gen_maz.py.)
  The machine: an integer's digits.
  Rows of values, one behind the other, in new memory.
  core's machine: what lies in a tuple.
  core's machine: tuples that are made larger, or changed. (Made by gen_mbc.py.)
-/
import Derived.Test.YtpdfjdomjklkbaaDoorK03
import Derived.Deep.RegionHeld3
import Derived.Test.YtpdfjdomjklkbaaDoorShelfN
import Derived.Lib.ItoaLen
import Derived.Lib.LaidTab
import Derived.Shelf.Spec.SlicesGrow
namespace Go.Proofs.YtpdfjdomjklkbaaDoor
open Go.ChangeShapes Go.WideShapes Go.ChangeAt Go.RowKit Go.Sort
set_option linter.unusedVariables false
set_option linter.unusedSimpArgs false

section
variable {w0 w : World} {B mb : Nat} {s : St} {t i r v f nx nm : Value} {rcs vcs fcs : List (List Value)}
theorem Rep.eblt (h : Rep w0 B mb s w t i r v f nx nm rcs vcs fcs) {b : Nat} (hb : b < w0.heap.size) : Mv mb t r v f b := h.mv b (by have := h.base.1; omega)
theorem cell_tr {P Q : Nat → Prop} {wr w3 : World} (hT : Tr wr P w3 Q) {b o : Nat} (hP : P b) {u : Value} (hc : wr.cell? ⟨b, o, none⟩ = some u) : w3.cell? ⟨b, o, none⟩ = some u := by
  have hl : b < wr.heap.size := block_lt_of_cell hc
  rw [World.cell?_of_block (hT b hP hl).2]; exact hc
theorem ExD.At.blt {w : World} {d : ExD} {b o : Nat} (h : d.At w b o) : b < w.heap.size := block_lt_of_cell h.c0
theorem keep4 (h : Rep w0 B mb s w t i r v f nx nm rcs vcs fcs) {wr w3 : World} {s' : St} (hb : Below w.heap.size w wr) {d : ExD} {eb eo : Nat} (hd : d.At w0 eb eo) {o2 o3 o5 : Nat} {u0 u2 u3 u5 : Value} (hS : wr.cell? ⟨w.heap.size, 0, none⟩ = some u0 ∧ wr.cell? ⟨eb, o2, none⟩ = some u2 ∧ wr.cell? ⟨eb, o3, none⟩ = some u3 ∧ wr.cell? ⟨eb, o5, none⟩ = some u5) (hp : Post w0 B mb (Mv mb t r v f) wr s' w3) :
    w3.cell? ⟨w.heap.size, 0, none⟩ = some u0 ∧ w3.cell? ⟨eb, o2, none⟩ = some u2 ∧ w3.cell? ⟨eb, o3, none⟩ = some u3 ∧ w3.cell? ⟨eb, o5, none⟩ = some u5 := by
  obtain ⟨t', i', r', v', f', nx', nm', rcs', vcs', fcs', h1, h2, h3⟩ := hp
  have he := h.eblt hd.blt
  exact ⟨cell_tr h2 (h.mvNew _ (Nat.le_refl _)) hS.1, cell_tr h2 he hS.2.1, cell_tr h2 he hS.2.2.1, cell_tr h2 he hS.2.2.2⟩
set_option maxHeartbeats 8000000 in
theorem beginRec_any (h : Rep w0 B mb s w t i r v f nx nm rcs vcs fcs) (hv : s.vals.length ≤ 100000000000) (e x y : Ex) (env : Env) (eb eo : Nat) (u : Option Addr) (he : EN w0 w (Mv mb t r v f) e env eb eo (.pointer u)) (hd : e.d.At w eb eo) (hl : e.l = [x, y]) (hp : e.d.pn ≤ 4000000) (hn : e.d.nn ≤ 4000000) (hk : partsOk e.d = true) (hkd : e.d.kind = 7) :
    Calls Tryd.prog 15 #[.agg #[.pointer (some ⟨mb, 0, none⟩)], .pointer (some ⟨eb, eo, none⟩), .pointer u] w fun e1 w' => e1 = .returned (.tuple #[]) ∧ Post w0 B mb (Mv mb t r v f) w { s with next := some (y, (e.d.s, .mk 3 0 [] [] (some (.mk e.d.s true e.d.t x env))) :: env) } w' := by
  have hb : Below w.heap.size w (w.alloc (.cells #[.pointer (some ⟨mb, 0, none⟩)] 46)) := (Below.refl _ _).alloc (Nat.le_refl _) _
  have HP0 := Lib.hid (parts_any e.d _ eb eo (hd.lower hb) hp hn)
  rw [hk] at HP0
  obtain ⟨pb, po, hpA, hAt⟩ := he.1.1.part (k := 0) (by rw [hl]; exact (show 0 < 2 by decide))
  have hpn : e.d.pn = 2 := by rw [← he.1.1.len, hl]; rfl
  have hxA : x.d.At w0 pb po := by have := hAt 0 (by rw [hl]; exact (show 0 < 2 by decide)); simpa [hl] using this
  have hxI : x.In w0 := he.1.1.sub x (by rw [hl]; simp)
  have hyA : y.d.At w0 pb (po + 6) := by have := hAt 1 (by rw [hl]; exact (show 1 < 2 by decide)); simpa [hl] using this
  have hyI : y.In w0 := he.1.1.sub y (by rw [hl]; simp)
  have HL := Lib.hid (fun (wr : World) (hb : Below w.heap.size w wr) => named2_any w0 wr (Mv mb t r v f) (fun b hbb => (h.below hb).mvNew b hbb) e.d.s e.d.t x env pb po u ⟨⟨hxI, hxA⟩, he.2.keep (Tr.below hb)⟩)
  have HC := Lib.hid (fun (wr : World) (hb : Below w.heap.size w wr) (q : Option Addr) hz => bind_any (h.below hb) y env pb (po + 6) u ⟨⟨hyI, hyA⟩, he.2.keep (Tr.below hb)⟩ e.d.s (.mk 3 0 [] [] (some (.mk e.d.s true e.d.t x env))) (.int .i64 3) (.int .i64 0) (.string (bstr [])) (.slice none 0 0) (.slice none 0 0) (.pointer q) hz)
  have HD := Lib.hid (fun (wr : World) (hb : Below w.heap.size w wr) => hd.lower hb)
  have HB := Lib.hid hb
  have hx := heap_new (w := w) (o := .cells #[.pointer (some ⟨mb, 0, none⟩)] 46) rfl
  have HX := Lib.hid hx
  have HBM := Lib.hid (fun (wr : World) (hb : Below w.heap.size w wr) => And.intro (Tr.below (P := Mv mb t r v f) hb) (hb.mono (Nat.le_of_lt (Nat.lt_of_le_of_lt h.base.2 h.lt))))
  have HK := Lib.hid (fun (wr w3 : World) (hb : Below w.heap.size w wr) (hS : wr.cell? ⟨w.heap.size, 0, none⟩ = some (.pointer (some ⟨mb, 0, none⟩)) ∧ wr.cell? ⟨eb, eo + 2, none⟩ = some (.string (bstr e.d.s)) ∧ wr.cell? ⟨eb, eo + 3, none⟩ = some (.string (bstr e.d.t)) ∧ wr.cell? ⟨eb, eo + 5, none⟩ = some (.slice (some ⟨pb, po, none⟩) 2 e.d.pc)) (hp : Post w0 B mb (Mv mb t r v f) wr { s with next := some (y, (e.d.s, .mk 3 0 [] [] (some (.mk e.d.s true e.d.t x env))) :: env) } w3) => keep4 h hb he.1.2 hS hp)
  clear h hb he hd hp hn hk hv hx hl hAt hxA hxI hyA hyI
  go_enter Tryd.func15, Tryd.ntmps15
  go_upto_region 14 with (go_at_call 21; (with_reducible refine HP0.out.mono ?_); rintro e1 w1 ⟨rfl, hb1⟩; have hbw := below_then HB.out hb1; have c0 : w1.cell? ⟨w.heap.size, 0, none⟩ = some (.pointer (some ⟨mb, 0, none⟩)) := (by rw [Lib.cell_of_heap ((hb1.block _ (lt_of_heap HX.out)).trans HX.out)]; rfl); have k0 := (HD.out _ hbw).c0; have k2 := (HD.out _ hbw).c2; have k3 := (HD.out _ hbw).c3; have k5 := (HD.out _ hbw).c5; rw [hkd] at k0; rw [hpA, hpn] at k5; have HB1 := Lib.hid hbw; clear hb1 HP0 hbw)
  have HD1 := Lib.hid (below_then HB1.out (below_drew1 w1))
  have HS1 := Lib.hid (show (fun V : World => V.cell? ⟨w.heap.size, 0, none⟩ = some (.pointer (some ⟨mb, 0, none⟩)) ∧ V.cell? ⟨eb, eo + 2, none⟩ = some (.string (bstr e.d.s)) ∧ V.cell? ⟨eb, eo + 3, none⟩ = some (.string (bstr e.d.t)) ∧ V.cell? ⟨eb, eo + 5, none⟩ = some (.slice (some ⟨pb, po, none⟩) 2 e.d.pc)) w1.drew from ⟨cell_below (below_drew1 w1) c0, cell_below (below_drew1 w1) k2, cell_below (below_drew1 w1) k3, cell_below (below_drew1 w1) k5⟩)
  have HLD := Lib.hid (HL.out _ HD1.out)
  clear c0 k0 k2 k3 k5
  go_region_held3 (fun V => V.cell? ⟨w.heap.size, 0, none⟩ = some (.pointer (some ⟨mb, 0, none⟩)) ∧ V.cell? ⟨eb, eo + 2, none⟩ = some (.string (bstr e.d.s)) ∧ V.cell? ⟨eb, eo + 3, none⟩ = some (.string (bstr e.d.t)) ∧ V.cell? ⟨eb, eo + 5, none⟩ = some (.slice (some ⟨pb, po, none⟩) 2 e.d.pc))
    (first | with_reducible exact HS1.out | with_reducible exact HS2.out | with_reducible exact HS3.out | fail)
    (first
    | (go_at_call 27; (with_reducible refine HLD.out.mono ?_); rintro e1 w2 ⟨q, rfl, hv2, hb2⟩; have hb3 := below_then HD1.out hb2; have HB2 := Lib.hid hb3; have HS2 := Lib.hid (And.intro (cell_below hb2 HS1.out.1) (And.intro (cell_below hb2 HS1.out.2.1) (And.intro (cell_below hb2 HS1.out.2.2.1) (cell_below hb2 HS1.out.2.2.2)))); have HT := Lib.hid (HC.out _ hb3 q hv2); clear hb2 hb3 hv2)
    | (go_at_call 26; (with_reducible refine HT.out.mono ?_); rintro e1 w3 ⟨rfl, hp⟩; have HP := Lib.hid hp; have HS3 := Lib.hid (HK.out _ _ HB2.out HS2.out hp); clear hp)
    | fail)
  all_goals
    go_wp2_with fail
    go_returns
    with_reducible exact ⟨rfl, HP.out.mono (HBM.out _ HB2.out).1 (HBM.out _ HB2.out).2⟩
end
end Go.Proofs.YtpdfjdomjklkbaaDoor

namespace Go.Proofs.YtpdfjdomjklkbaaDoor
open Go.ChangeShapes Go.WideShapes Go.ChangeAt Go.RowKit Go.Sort
set_option linter.unusedVariables false
set_option linter.unusedSimpArgs false

def St.begin (s : St) (e : Ex) (env : Env) : St :=
  if partsOk e.d = false then { s with err := 11 }
  else if e.d.kind = 1 then { s with vals := s.vals ++ [.mk 1 e.d.n [] [] none] }
  else if e.d.kind = 2 then { s with vals := s.vals ++ [.mk 2 0 e.d.s [] none] }
  else if e.d.kind = 3 then s.name e.d.s env
  else if e.d.kind = 4 then (match e.l with
    | [x] => { s with vals := s.vals ++ [.mk 3 0 [] [] (some (.mk [] false e.d.s x env))] }
    | _ => s)
  else if e.d.kind = 7 then (match e.l with
    | [x, y] => { s with next := some (y, (e.d.s, .mk 3 0 [] [] (some (.mk e.d.s true e.d.t x env))) :: env) }
    | _ => s)
  else if e.d.kind = 22 then s.read
  else { s with frames := s.frames ++ [⟨e, env, s.vals.length⟩] }
theorem len1 {α : Type} {l : List α} (h : l.length = 1) : ∃ x, l = [x] := by
  match l, h with
  | [x], _ => exact ⟨x, rfl⟩
theorem len2 {α : Type} {l : List α} (h : l.length = 2) : ∃ x y, l = [x, y] := by
  match l, h with
  | [x, y], _ => exact ⟨x, y, rfl⟩
theorem len3 {α : Type} {l : List α} (h : l.length = 3) : ∃ x y z, l = [x, y, z] := by
  match l, h with
  | [x, y, z], _ => exact ⟨x, y, z, rfl⟩
theorem parts1 {d : ExD} (h : partsOk d = true) (hk : d.kind = 4 ∨ d.kind = 17 ∨ d.kind = 18 ∨ d.kind = 20 ∨ d.kind = 21) : d.pn = 1 := by
  unfold partsOk at h
  rw [if_neg (by omega), if_pos (by omega)] at h
  have := of_decide_eq_true h
  omega
theorem parts2 {d : ExD} (h : partsOk d = true) (hk : d.kind = 5 ∨ d.kind = 6 ∨ d.kind = 7 ∨ d.kind = 9 ∨ d.kind = 11 ∨ d.kind = 13 ∨ d.kind = 16 ∨ d.kind = 19) : d.pn = 2 := by
  unfold partsOk at h
  rw [if_neg (by omega), if_neg (by omega), if_pos (by omega)] at h
  have := of_decide_eq_true h
  omega
theorem parts3 {d : ExD} (h : partsOk d = true) (hk : d.kind = 10 ∨ d.kind = 12 ∨ d.kind = 15) : d.pn = 3 := by
  unfold partsOk at h
  rw [if_neg (by omega), if_neg (by omega), if_neg (by omega), if_pos (by omega)] at h
  have := of_decide_eq_true h
  omega
theorem partsC {d : ExD} (h : partsOk d = true) (hk : d.kind = 14) : d.pn = 1 + 2 * d.nn + (if d.t = [] then 0 else 1) := by
  unfold partsOk at h
  rw [if_neg (by omega), if_neg (by omega), if_neg (by omega), if_neg (by omega), if_neg (by omega), if_pos hk] at h
  split at h
  · rename_i ht
    rw [if_pos ht]
    have := of_decide_eq_true h
    omega
  · rename_i ht
    rw [if_neg ht]
    have := of_decide_eq_true h
    omega
theorem partsKind {d : ExD} (h : partsOk d = true) : 1 ≤ d.kind ∧ d.kind ≤ 22 := by
  unfold partsOk at h
  repeat' split at h
  all_goals first | omega | cases h
section
variable {w0 w : World} {B mb : Nat} {s : St} {t i r v f nx nm : Value} {rcs vcs fcs : List (List Value)}
theorem beginAll_any (h : Rep w0 B mb s w t i r v f nx nm rcs vcs fcs) (hv : s.vals.length ≤ 100000000000) (hf : s.frames.length ≤ 100000000000) (hi : s.input.length ≤ 100000000000) (e : Ex) (env : Env) (eb eo : Nat) (u : Option Addr) (he : EN w0 w (Mv mb t r v f) e env eb eo (.pointer u)) (hd : e.d.At w eb eo) :
    Calls Tryd.prog 15 #[.agg #[.pointer (some ⟨mb, 0, none⟩)], .pointer (some ⟨eb, eo, none⟩), .pointer u] w fun e1 w' => e1 = .returned (.tuple #[]) ∧ Post w0 B mb (Mv mb t r v f) w (s.begin e env) w' := by
  have hp : e.d.pn ≤ 4000000 := he.1.1.cap.2.1.2.2
  have hn : e.d.nn ≤ 4000000 := he.1.1.cap.1.2.2
  have hl := he.1.1.len
  by_cases hk : partsOk e.d = false
  · rw [show s.begin e env = _ from if_pos hk]
    exact beginStuck_any h hv e env eb eo u he hd hp hn hk
  have hk' : partsOk e.d = true := by simpa using hk
  rw [show s.begin e env = _ from if_neg hk]
  by_cases q1 : e.d.kind = 1
  · rw [if_pos q1]
    exact beginInt_any h hv e env eb eo u he hd hp hn hk' q1
  rw [if_neg q1]
  by_cases q2 : e.d.kind = 2
  · rw [if_pos q2]
    exact beginText_any h hv e env eb eo u he hd hp hn hk' q2
  rw [if_neg q2]
  by_cases q3 : e.d.kind = 3
  · rw [if_pos q3]
    exact beginVar_any h hv e env eb eo u he hd hp hn hk' q3
  rw [if_neg q3]
  by_cases q4 : e.d.kind = 4
  · rw [if_pos q4]
    obtain ⟨x, hx⟩ := len1 (hl.trans (parts1 hk' (.inl q4)))
    rw [hx]
    exact beginFn_any h hv e x env eb eo u he hd hx hp hn hk' q4
  rw [if_neg q4]
  by_cases q7 : e.d.kind = 7
  · rw [if_pos q7]
    obtain ⟨x, y, hx⟩ := len2 (hl.trans (parts2 hk' (.inr (.inr (.inl q7)))))
    rw [hx]
    exact beginRec_any h hv e x y env eb eo u he hd hx hp hn hk' q7
  rw [if_neg q7]
  by_cases q22 : e.d.kind = 22
  · rw [if_pos q22]
    exact beginRead_any h hv hi e env eb eo u he hd hp hn hk' q22
  rw [if_neg q22]
  exact beginWait_any h hv hf e env eb eo u he hd hp hn hk' q1 q2 q3 q4 q7 q22
end
end Go.Proofs.YtpdfjdomjklkbaaDoor

namespace Go.Proofs.YtpdfjdomjklkbaaDoor
open Go.ChangeShapes Go.WideShapes Go.ChangeAt Go.RowKit Go.Sort
set_option linter.unusedVariables false
set_option linter.unusedSimpArgs false

/-- One of the values that lie side by side: where it lies. -/
theorem Vs.six {w0 w : World} {P : Nat → Prop} {l : List Val} {ab ao : Nat} {css : List (List Value)} (h : Vs w0 w P l (some ⟨ab, ao, none⟩) css) (k : Nat) {z : Val} (hk : l[k]? = some z) (o1 o2 o3 o4 o5 o6 : Nat) (ho : o1 = ao + k * 6 ∧ o2 = ao + k * 6 + 1 ∧ o3 = ao + k * 6 + 2 ∧ o4 = ao + k * 6 + 3 ∧ o5 = ao + k * 6 + 4 ∧ o6 = ao + k * 6 + 5) :
    ∃ (A : Option Addr) (c : Nat) (p : Option Addr), VR w0 w P z [.int .i64 z.sort, .int .i64 z.n, .string (bstr z.s), .slice none 0 0, .slice A z.l.length c, .pointer p] ∧
      (w.cell? ⟨ab, o1, none⟩ = some (.int .i64 z.sort) ∧ w.cell? ⟨ab, o2, none⟩ = some (.int .i64 z.n) ∧ w.cell? ⟨ab, o3, none⟩ = some (.string (bstr z.s)) ∧ w.cell? ⟨ab, o4, none⟩ = some (.slice none 0 0) ∧ w.cell? ⟨ab, o5, none⟩ = some (.slice A z.l.length c) ∧ w.cell? ⟨ab, o6, none⟩ = some (.pointer p)) := by
  obtain ⟨r1, r2, r3, r4, r5, r6⟩ := ho
  subst r1 r2 r3 r4 r5 r6
  have hkl : k < l.length := (List.getElem?_eq_some_iff.1 hk).1
  have hz : l[k] = z := (List.getElem?_eq_some_iff.1 hk).2
  obtain ⟨cs, hcs, hv⟩ := h.lr.get hkl
  rw [hz] at hv
  obtain ⟨A, c, p, rfl⟩ := hv.six
  obtain ⟨b, o, e, hb, hh⟩ := h.rd.base (by rw [h.rd.1]; omega)
  injection e with e
  injection e with e1 e2
  subst e1 e2
  have h6 := VR.lens h.lr
  exact ⟨A, c, p, hv, hh (k * 6 + 0) _ (flat_at2 h6 hcs (j := 0) rfl), hh (k * 6 + 1) _ (flat_at2 h6 hcs (j := 1) rfl), hh (k * 6 + 2) _ (flat_at2 h6 hcs (j := 2) rfl), hh (k * 6 + 3) _ (flat_at2 h6 hcs (j := 3) rfl), hh (k * 6 + 4) _ (flat_at2 h6 hcs (j := 4) rfl), hh (k * 6 + 5) _ (flat_at2 h6 hcs (j := 5) rfl)⟩
section
variable {w0 w : World} {B mb : Nat} {s : St} {t i r v f nx nm : Value} {rcs vcs fcs : List (List Value)}
set_option maxHeartbeats 8000000 in
theorem applyRef_any (h : Rep w0 B mb s w t i r v f nx nm rcs vcs fcs) (hv : s.vals.length ≤ 100000000000) (hr : s.refs.length ≤ 100000000000) (e : Ex) (eb eo : Nat) (hd : e.d.At w eb eo) (x : Val) (css : List (List Value)) (ab ao c : Nat) (hl : Vs w0 w (Mv mb t r v f) [x] (some ⟨ab, ao, none⟩) css) (hkd : e.d.kind = 17) :
    Calls Tryd.prog 33 #[.agg #[.pointer (some ⟨mb, 0, none⟩)], .pointer (some ⟨eb, eo, none⟩), .slice (some ⟨ab, ao, none⟩) 1 c] w fun e1 w' => e1 = .returned (.tuple #[]) ∧ Post w0 B mb (Mv mb t r v f) w { s with refs := s.refs ++ [x], vals := s.vals ++ [.mk 6 s.refs.length [] [] none] } w' := by
  have hb : Below w.heap.size w (w.alloc (.cells #[.pointer (some ⟨mb, 0, none⟩)] 46)) := (Below.refl _ _).alloc (Nat.le_refl _) _
  obtain ⟨A0, kc0, p0, hz0, g00, g01, g02, g03, g04, g05⟩ := (hl.below hb).six 0 (z := x) rfl ao (ao + 1) (ao + 2) (ao + 3) (ao + 4) (ao + 5) ⟨by omega, by omega, by omega, by omega, by omega, by omega⟩
  have HC := Lib.hid (fun (wr : World) (hb' : Below (w.alloc (.cells #[.pointer (some ⟨mb, 0, none⟩)] 46)).heap.size (w.alloc (.cells #[.pointer (some ⟨mb, 0, none⟩)] 46)) wr) => ref_any ((h.below hb).below hb') hr hv x (hz0.keep (Tr.below hb')))
  have c0 : (w.alloc (.cells #[.pointer (some ⟨mb, 0, none⟩)] 46)).cell? ⟨w.heap.size, 0, none⟩ = some (.pointer (some ⟨mb, 0, none⟩)) := (by rw [Lib.cell_of_heap (heap_new (w := w) (o := .cells #[.pointer (some ⟨mb, 0, none⟩)] 46) rfl)]; rfl)
  have k0 := (hd.lower hb).c0
  have k2 := (hd.lower hb).c2
  rw [hkd] at k0
  have HB := Lib.hid hb
  have HBM := Lib.hid (fun (wr : World) (hb : Below w.heap.size w wr) => And.intro (Tr.below (P := Mv mb t r v f) hb) (hb.mono (Nat.le_of_lt (Nat.lt_of_le_of_lt h.base.2 h.lt))))
  clear h hb hd hv hl hkd hz0 hr
  go_enter Tryd.func33, Tryd.ntmps33
  go_upto_region 18 with fail
  go_region_law (go_simp; go_at_call 40; (with_reducible refine (HC.out _ (below_drew1 _)).mono ?_); rintro e1 w2 ⟨rfl, hp⟩; have HP := Lib.hid hp; clear hp)
  all_goals
    go_wp2_with fail
    go_returns
    with_reducible exact ⟨rfl, HP.out.mono (HBM.out _ (Below.drew HB.out)).1 (HBM.out _ (Below.drew HB.out)).2⟩
set_option maxHeartbeats 8000000 in
theorem applyGet_any (h : Rep w0 B mb s w t i r v f nx nm rcs vcs fcs) (hv : s.vals.length ≤ 100000000000) (hr : s.refs.length ≤ 100000000000) (e : Ex) (eb eo : Nat) (hd : e.d.At w eb eo) (x : Val) (css : List (List Value)) (ab ao c : Nat) (hl : Vs w0 w (Mv mb t r v f) [x] (some ⟨ab, ao, none⟩) css) (hkd : e.d.kind = 18) (hz : x.sort = 6 → ∃ k : Nat, x.n = k ∧ k < s.refs.length) :
    Calls Tryd.prog 33 #[.agg #[.pointer (some ⟨mb, 0, none⟩)], .pointer (some ⟨eb, eo, none⟩), .slice (some ⟨ab, ao, none⟩) 1 c] w fun e1 w' => e1 = .returned (.tuple #[]) ∧ Post w0 B mb (Mv mb t r v f) w (s.get x) w' := by
  have hb : Below w.heap.size w (w.alloc (.cells #[.pointer (some ⟨mb, 0, none⟩)] 46)) := (Below.refl _ _).alloc (Nat.le_refl _) _
  obtain ⟨A0, kc0, p0, hz0, g00, g01, g02, g03, g04, g05⟩ := (hl.below hb).six 0 (z := x) rfl ao (ao + 1) (ao + 2) (ao + 3) (ao + 4) (ao + 5) ⟨by omega, by omega, by omega, by omega, by omega, by omega⟩
  have HC := Lib.hid (fun (wr : World) (hb' : Below (w.alloc (.cells #[.pointer (some ⟨mb, 0, none⟩)] 46)).heap.size (w.alloc (.cells #[.pointer (some ⟨mb, 0, none⟩)] 46)) wr) => get_any ((h.below hb).below hb') hr hv x A0 kc0 p0 hz)
  have c0 : (w.alloc (.cells #[.pointer (some ⟨mb, 0, none⟩)] 46)).cell? ⟨w.heap.size, 0, none⟩ = some (.pointer (some ⟨mb, 0, none⟩)) := (by rw [Lib.cell_of_heap (heap_new (w := w) (o := .cells #[.pointer (some ⟨mb, 0, none⟩)] 46) rfl)]; rfl)
  have k0 := (hd.lower hb).c0
  have k2 := (hd.lower hb).c2
  rw [hkd] at k0
  have HB := Lib.hid hb
  have HBM := Lib.hid (fun (wr : World) (hb : Below w.heap.size w wr) => And.intro (Tr.below (P := Mv mb t r v f) hb) (hb.mono (Nat.le_of_lt (Nat.lt_of_le_of_lt h.base.2 h.lt))))
  clear h hb hd hv hl hkd hz0 hr hz
  go_enter Tryd.func33, Tryd.ntmps33
  go_upto_region 20 with fail
  go_region_law (go_simp; go_at_call 41; (with_reducible refine (HC.out _ (below_drew1 _)).mono ?_); rintro e1 w2 ⟨rfl, hp⟩; have HP := Lib.hid hp; clear hp)
  all_goals
    go_wp2_with fail
    go_returns
    with_reducible exact ⟨rfl, HP.out.mono (HBM.out _ (Below.drew HB.out)).1 (HBM.out _ (Below.drew HB.out)).2⟩
set_option maxHeartbeats 8000000 in
theorem applyPrint_any (h : Rep w0 B mb s w t i r v f nx nm rcs vcs fcs) (hv : s.vals.length ≤ 100000000000) (ht : s.trace.length ≤ 100000000000) (e : Ex) (eb eo : Nat) (hd : e.d.At w eb eo) (x : Val) (css : List (List Value)) (ab ao c : Nat) (hl : Vs w0 w (Mv mb t r v f) [x] (some ⟨ab, ao, none⟩) css) (hkd : e.d.kind = 20) :
    Calls Tryd.prog 33 #[.agg #[.pointer (some ⟨mb, 0, none⟩)], .pointer (some ⟨eb, eo, none⟩), .slice (some ⟨ab, ao, none⟩) 1 c] w fun e1 w' => e1 = .returned (.tuple #[]) ∧ Post w0 B mb (Mv mb t r v f) w (s.print x) w' := by
  have hb : Below w.heap.size w (w.alloc (.cells #[.pointer (some ⟨mb, 0, none⟩)] 46)) := (Below.refl _ _).alloc (Nat.le_refl _) _
  obtain ⟨A0, kc0, p0, hz0, g00, g01, g02, g03, g04, g05⟩ := (hl.below hb).six 0 (z := x) rfl ao (ao + 1) (ao + 2) (ao + 3) (ao + 4) (ao + 5) ⟨by omega, by omega, by omega, by omega, by omega, by omega⟩
  have HC := Lib.hid (fun (wr : World) (hb' : Below (w.alloc (.cells #[.pointer (some ⟨mb, 0, none⟩)] 46)).heap.size (w.alloc (.cells #[.pointer (some ⟨mb, 0, none⟩)] 46)) wr) => print_any ((h.below hb).below hb') ht hv x A0 kc0 p0)
  have c0 : (w.alloc (.cells #[.pointer (some ⟨mb, 0, none⟩)] 46)).cell? ⟨w.heap.size, 0, none⟩ = some (.pointer (some ⟨mb, 0, none⟩)) := (by rw [Lib.cell_of_heap (heap_new (w := w) (o := .cells #[.pointer (some ⟨mb, 0, none⟩)] 46) rfl)]; rfl)
  have k0 := (hd.lower hb).c0
  have k2 := (hd.lower hb).c2
  rw [hkd] at k0
  have HB := Lib.hid hb
  have HBM := Lib.hid (fun (wr : World) (hb : Below w.heap.size w wr) => And.intro (Tr.below (P := Mv mb t r v f) hb) (hb.mono (Nat.le_of_lt (Nat.lt_of_le_of_lt h.base.2 h.lt))))
  clear h hb hd hv hl hkd hz0 ht
  go_enter Tryd.func33, Tryd.ntmps33
  go_upto_region 24 with fail
  go_region_law (go_simp; go_at_call 43; (with_reducible refine (HC.out _ (below_drew1 _)).mono ?_); rintro e1 w2 ⟨rfl, hp⟩; have HP := Lib.hid hp; clear hp)
  all_goals
    go_wp2_with fail
    go_returns
    with_reducible exact ⟨rfl, HP.out.mono (HBM.out _ (Below.drew HB.out)).1 (HBM.out _ (Below.drew HB.out)).2⟩
set_option maxHeartbeats 8000000 in
theorem applySet_any (h : Rep w0 B mb s w t i r v f nx nm rcs vcs fcs) (hv : s.vals.length ≤ 100000000000) (hr : s.refs.length ≤ 100000000000) (e : Ex) (eb eo : Nat) (hd : e.d.At w eb eo) (x y : Val) (css : List (List Value)) (ab ao c : Nat) (hl : Vs w0 w (Mv mb t r v f) [x, y] (some ⟨ab, ao, none⟩) css) (hkd : e.d.kind = 19) (hz : x.sort = 6 → ∃ k : Nat, x.n = k ∧ k < s.refs.length) :
    Calls Tryd.prog 33 #[.agg #[.pointer (some ⟨mb, 0, none⟩)], .pointer (some ⟨eb, eo, none⟩), .slice (some ⟨ab, ao, none⟩) 2 c] w fun e1 w' => e1 = .returned (.tuple #[]) ∧ Post w0 B mb (Mv mb t r v f) w (s.set x y) w' := by
  have hb : Below w.heap.size w (w.alloc (.cells #[.pointer (some ⟨mb, 0, none⟩)] 46)) := (Below.refl _ _).alloc (Nat.le_refl _) _
  obtain ⟨A0, kc0, p0, hz0, g00, g01, g02, g03, g04, g05⟩ := (hl.below hb).six 0 (z := x) rfl ao (ao + 1) (ao + 2) (ao + 3) (ao + 4) (ao + 5) ⟨by omega, by omega, by omega, by omega, by omega, by omega⟩
  obtain ⟨A1, kc1, p1, hz1, g10, g11, g12, g13, g14, g15⟩ := (hl.below hb).six 1 (z := y) rfl (ao + 6) (ao + 7) (ao + 8) (ao + 9) (ao + 10) (ao + 11) ⟨by omega, by omega, by omega, by omega, by omega, by omega⟩
  have HC := Lib.hid (fun (wr : World) (hb' : Below (w.alloc (.cells #[.pointer (some ⟨mb, 0, none⟩)] 46)).heap.size (w.alloc (.cells #[.pointer (some ⟨mb, 0, none⟩)] 46)) wr) => setR_any ((h.below hb).below hb') hr hv x y A0 kc0 p0 A1 kc1 p1 hz (hz1.keep (Tr.below hb')))
  have c0 : (w.alloc (.cells #[.pointer (some ⟨mb, 0, none⟩)] 46)).cell? ⟨w.heap.size, 0, none⟩ = some (.pointer (some ⟨mb, 0, none⟩)) := (by rw [Lib.cell_of_heap (heap_new (w := w) (o := .cells #[.pointer (some ⟨mb, 0, none⟩)] 46) rfl)]; rfl)
  have k0 := (hd.lower hb).c0
  have k2 := (hd.lower hb).c2
  rw [hkd] at k0
  have HB := Lib.hid hb
  have HBM := Lib.hid (fun (wr : World) (hb : Below w.heap.size w wr) => And.intro (Tr.below (P := Mv mb t r v f) hb) (hb.mono (Nat.le_of_lt (Nat.lt_of_le_of_lt h.base.2 h.lt))))
  clear h hb hd hv hl hkd hz0 hz1 hr hz
  go_enter Tryd.func33, Tryd.ntmps33
  go_upto_region 22 with fail
  go_region_law (go_simp; go_at_call 42; (with_reducible refine (HC.out _ (below_drew1 _)).mono ?_); rintro e1 w2 ⟨rfl, hp⟩; have HP := Lib.hid hp; clear hp)
  all_goals
    go_wp2_with fail
    go_returns
    with_reducible exact ⟨rfl, HP.out.mono (HBM.out _ (Below.drew HB.out)).1 (HBM.out _ (Below.drew HB.out)).2⟩
set_option maxHeartbeats 8000000 in
theorem applyCall_any (h : Rep w0 B mb s w t i r v f nx nm rcs vcs fcs) (hv : s.vals.length ≤ 100000000000) (e : Ex) (eb eo : Nat) (hd : e.d.At w eb eo) (x y : Val) (css : List (List Value)) (ab ao c : Nat) (hl : Vs w0 w (Mv mb t r v f) [x, y] (some ⟨ab, ao, none⟩) css) (hkd : e.d.kind = 5) (hf : x.sort = 3 → x.f ≠ none) :
    Calls Tryd.prog 33 #[.agg #[.pointer (some ⟨mb, 0, none⟩)], .pointer (some ⟨eb, eo, none⟩), .slice (some ⟨ab, ao, none⟩) 2 c] w fun e1 w' => e1 = .returned (.tuple #[]) ∧ Post w0 B mb (Mv mb t r v f) w (s.call x y) w' := by
  have hb : Below w.heap.size w (w.alloc (.cells #[.pointer (some ⟨mb, 0, none⟩)] 46)) := (Below.refl _ _).alloc (Nat.le_refl _) _
  obtain ⟨A0, kc0, p0, hz0, g00, g01, g02, g03, g04, g05⟩ := (hl.below hb).six 0 (z := x) rfl ao (ao + 1) (ao + 2) (ao + 3) (ao + 4) (ao + 5) ⟨by omega, by omega, by omega, by omega, by omega, by omega⟩
  obtain ⟨A1, kc1, p1, hz1, g10, g11, g12, g13, g14, g15⟩ := (hl.below hb).six 1 (z := y) rfl (ao + 6) (ao + 7) (ao + 8) (ao + 9) (ao + 10) (ao + 11) ⟨by omega, by omega, by omega, by omega, by omega, by omega⟩
  have HC := Lib.hid (fun (wr : World) (hb' : Below (w.alloc (.cells #[.pointer (some ⟨mb, 0, none⟩)] 46)).heap.size (w.alloc (.cells #[.pointer (some ⟨mb, 0, none⟩)] 46)) wr) => call_any ((h.below hb).below hb') x y A0 kc0 p0 A1 kc1 p1 hf (hz0.keep (Tr.below hb')) (hz1.keep (Tr.below hb')))
  have c0 : (w.alloc (.cells #[.pointer (some ⟨mb, 0, none⟩)] 46)).cell? ⟨w.heap.size, 0, none⟩ = some (.pointer (some ⟨mb, 0, none⟩)) := (by rw [Lib.cell_of_heap (heap_new (w := w) (o := .cells #[.pointer (some ⟨mb, 0, none⟩)] 46) rfl)]; rfl)
  have k0 := (hd.lower hb).c0
  have k2 := (hd.lower hb).c2
  rw [hkd] at k0
  have HB := Lib.hid hb
  have HBM := Lib.hid (fun (wr : World) (hb : Below w.heap.size w wr) => And.intro (Tr.below (P := Mv mb t r v f) hb) (hb.mono (Nat.le_of_lt (Nat.lt_of_le_of_lt h.base.2 h.lt))))
  clear h hb hd hv hl hkd hz0 hz1 hf
  go_enter Tryd.func33, Tryd.ntmps33
  go_upto_region 5 with fail
  go_region_law (go_simp; go_at_call 37; (with_reducible refine (HC.out _ (below_drew1 _)).mono ?_); rintro e1 w2 ⟨rfl, hp⟩; have HP := Lib.hid hp; clear hp)
  all_goals
    go_wp2_with fail
    go_returns
    with_reducible exact ⟨rfl, HP.out.mono (HBM.out _ (Below.drew HB.out)).1 (HBM.out _ (Below.drew HB.out)).2⟩
set_option maxHeartbeats 8000000 in
theorem applyOper_any (h : Rep w0 B mb s w t i r v f nx nm rcs vcs fcs) (hv : s.vals.length ≤ 100000000000) (e : Ex) (eb eo : Nat) (hd : e.d.At w eb eo) (x y : Val) (css : List (List Value)) (ab ao c : Nat) (hl : Vs w0 w (Mv mb t r v f) [x, y] (some ⟨ab, ao, none⟩) css) (hkd : e.d.kind = 16) (h1 : x.s.length ≤ 4000000) (h2 : y.s.length ≤ 4000000) (h3 : -9223372036854775808 ≤ x.n ∧ x.n ≤ 9223372036854775807) (h4 : -9223372036854775808 ≤ y.n ∧ y.n ≤ 9223372036854775807) :
    Calls Tryd.prog 33 #[.agg #[.pointer (some ⟨mb, 0, none⟩)], .pointer (some ⟨eb, eo, none⟩), .slice (some ⟨ab, ao, none⟩) 2 c] w fun e1 w' => e1 = .returned (.tuple #[]) ∧ Post w0 B mb (Mv mb t r v f) w (s.oper e.d.s x y) w' := by
  have hb : Below w.heap.size w (w.alloc (.cells #[.pointer (some ⟨mb, 0, none⟩)] 46)) := (Below.refl _ _).alloc (Nat.le_refl _) _
  obtain ⟨A0, kc0, p0, hz0, g00, g01, g02, g03, g04, g05⟩ := (hl.below hb).six 0 (z := x) rfl ao (ao + 1) (ao + 2) (ao + 3) (ao + 4) (ao + 5) ⟨by omega, by omega, by omega, by omega, by omega, by omega⟩
  obtain ⟨A1, kc1, p1, hz1, g10, g11, g12, g13, g14, g15⟩ := (hl.below hb).six 1 (z := y) rfl (ao + 6) (ao + 7) (ao + 8) (ao + 9) (ao + 10) (ao + 11) ⟨by omega, by omega, by omega, by omega, by omega, by omega⟩
  have HC := Lib.hid (fun (wr : World) (hb' : Below (w.alloc (.cells #[.pointer (some ⟨mb, 0, none⟩)] 46)).heap.size (w.alloc (.cells #[.pointer (some ⟨mb, 0, none⟩)] 46)) wr) => oper_any ((h.below hb).below hb') hv e.d.s x y A0 kc0 p0 A1 kc1 p1 h1 h2 h3 h4)
  have c0 : (w.alloc (.cells #[.pointer (some ⟨mb, 0, none⟩)] 46)).cell? ⟨w.heap.size, 0, none⟩ = some (.pointer (some ⟨mb, 0, none⟩)) := (by rw [Lib.cell_of_heap (heap_new (w := w) (o := .cells #[.pointer (some ⟨mb, 0, none⟩)] 46) rfl)]; rfl)
  have k0 := (hd.lower hb).c0
  have k2 := (hd.lower hb).c2
  rw [hkd] at k0
  have HB := Lib.hid hb
  have HBM := Lib.hid (fun (wr : World) (hb : Below w.heap.size w wr) => And.intro (Tr.below (P := Mv mb t r v f) hb) (hb.mono (Nat.le_of_lt (Nat.lt_of_le_of_lt h.base.2 h.lt))))
  clear h hb hd hv hl hkd hz0 hz1 h1 h2 h3 h4
  go_enter Tryd.func33, Tryd.ntmps33
  go_upto_region 16 with fail
  go_region_law (go_simp; go_at_call 39; (with_reducible refine (HC.out _ (below_drew1 _)).mono ?_); rintro e1 w2 ⟨rfl, hp⟩; have HP := Lib.hid hp; clear hp)
  all_goals
    go_wp2_with fail
    go_returns
    with_reducible exact ⟨rfl, HP.out.mono (HBM.out _ (Below.drew HB.out)).1 (HBM.out _ (Below.drew HB.out)).2⟩
end
end Go.Proofs.YtpdfjdomjklkbaaDoor

namespace Go.Proofs.YtpdfjdomjklkbaaDoor
open Go.ChangeShapes Go.WideShapes Go.ChangeAt Go.RowKit Go.Sort
set_option linter.unusedVariables false
set_option linter.unusedSimpArgs false

abbrev Tab (w : World) : Prop := Lib.TabIs Tryd.prog w "internal/strconv.uint64pow10" .u64 Lib.pow10Tab
theorem gTab : Tryd.prog.globalNamed "internal/strconv.uint64pow10" = some 0 := by kernel_rfl
theorem tab_below {w w' : World} (h : Tab w) (hb : Below w.heap.size w w') : Tab w' := by
  unfold Tab Lib.TabIs World.var? at h ⊢
  rw [gTab] at h ⊢
  simp only [Option.bind_some] at h ⊢
  have hlt : 0 < w.heap.size := by
    rcases Nat.lt_or_ge 0 w.heap.size with h' | h'
    · exact h'
    · rw [Array.getElem?_eq_none h'] at h; cases h
  rw [hb.block _ hlt]
  exact h
theorem below_growN {w : World} (k : Nat) (os : Array Obj) : Below w.heap.size w (grow (w.drewN k) os) := by
  have h := below_regrown w (w.drewN k).drawn os
  exact h
theorem itoa_len (n : Int) (h : -9223372036854775808 ≤ n ∧ n ≤ 9223372036854775807) : (Lib.itoa n).length ≤ 21 := Lib.itoa_length_le n h.1 h.2
def St.shw (s : St) (z : Val) : St := s.tell (.mk 2 0 (Lib.itoa z.n) [] none) 0 (z.sort == 1)
section
variable {w0 w : World} {B mb : Nat} {s : St} {t i r v f nx nm : Value} {rcs vcs fcs : List (List Value)}
set_option maxHeartbeats 4000000 in
theorem show_any (h : Rep w0 B mb s w t i r v f nx nm rcs vcs fcs) (hv : s.vals.length ≤ 100000000000) (hT : Tab w) (z : Val) (A : Option Addr) (c : Nat) (p : Option Addr) (hn : -9223372036854775808 ≤ z.n ∧ z.n ≤ 9223372036854775807) :
    Calls Tryd.prog 44 #[.pointer (some ⟨mb, 0, none⟩), .agg #[.int .i64 z.sort, .int .i64 z.n, .string (bstr z.s), .slice none 0 0, .slice A z.l.length c, .pointer p]] w fun e w' => e = .returned (.tuple #[]) ∧ Post w0 B mb (Mv mb t r v f) w (s.shw z) w' := by
  have hb : Below w.heap.size w (w.alloc (.cells #[.int .i64 z.sort, .int .i64 z.n, .string (bstr z.s), .slice none 0 0, .slice A z.l.length c, .pointer p] 50)) := (Below.refl _ _).alloc (Nat.le_refl _) _
  obtain ⟨a0, a1, a2, a3, a4, a5⟩ := cells6 (heap_new (w := w) (o := .cells #[.int .i64 z.sort, .int .i64 z.n, .string (bstr z.s), .slice none 0 0, .slice A z.l.length c, .pointer p] 50) rfl)
  obtain ⟨I, hI⟩ : ∃ I, Lib.itoa z.n = I := ⟨_, rfl⟩
  have HC := Lib.hid (fun (wr : World) (hb' : Below w.heap.size w wr) => (show Calls Tryd.prog 52 #[.int .i64 z.n, .int .i64 10] wr fun e w' => e = .returned (.string (bstr I)) ∧ Below wr.heap.size wr w' from by rw [← hI]; exact (Tryd.strconv_FormatInt_10 z.n hn.1 hn.2 wr (tab_below hT hb')).mono fun e w' ⟨he, k, os, hw⟩ => ⟨he, by rw [hw]; exact below_growN k os⟩))
  have HT := Lib.hid (fun (wr : World) (hb' : Below w.heap.size w wr) => (show Calls Tryd.prog 35 #[.pointer (some ⟨mb, 0, none⟩), .agg #[.int .i64 2, .int .i64 0, .string (bstr I), .slice none 0 0, .slice none 0 0, .pointer none], .int .i64 0, .bool (z.sort == 1)] wr fun e w' => e = .returned (.tuple #[]) ∧ Post w0 B mb (Mv mb t r v f) wr (s.shw z) w' from by unfold St.shw; rw [hI]; exact tellG_any (h.below hb') hv 2 0 I 0 (z.sort == 1)))
  have HB := Lib.hid hb
  have HBM := Lib.hid (fun (wr : World) (hb : Below w.heap.size w wr) => And.intro (Tr.below (P := Mv mb t r v f) hb) (hb.mono (Nat.le_of_lt (Nat.lt_of_le_of_lt h.base.2 h.lt))))
  have HA0 := Lib.hid a0
  clear h hv hT hb hI hn
  go_enter Tryd.func44, Tryd.ntmps44
  go_upto_region 1 with fail
  go_region_law (first
    | (go_simp; go_at_call 52; (with_reducible refine (HC.out _ (Below.drew HB.out)).mono ?_); rintro e1 w2 ⟨rfl, hb2⟩; have hb3 := below_then (Below.drew HB.out) hb2; have e0 : w2.cell? ⟨w.heap.size, 0, none⟩ = some (.int .i64 z.sort) := cell_below hb2 HA0.out; have HB2 := Lib.hid hb3; clear hb2 hb3)
    | (go_simp; go_at_call 35; (with_reducible refine (HT.out _ HB2.out).mono ?_); rintro e1 w3 ⟨rfl, hp⟩; have HP := Lib.hid hp; clear hp))
  all_goals
    go_wp2_with fail
    go_returns
    with_reducible exact ⟨rfl, HP.out.mono (HBM.out _ HB2.out).1 (HBM.out _ HB2.out).2⟩
end
end Go.Proofs.YtpdfjdomjklkbaaDoor

namespace Go.Proofs.YtpdfjdomjklkbaaDoor
open Go.ChangeShapes Go.WideShapes Go.ChangeAt Go.RowKit Go.Sort
set_option linter.unusedVariables false
set_option linter.unusedSimpArgs false

theorem vgrow_any (w : World) (n : Nat) (hn : n ≤ 100000000000) :
    Calls Tryd.prog 53 #[.slice none 0 0, .int .i64 n] w fun e w' => ∃ u, e = .returned u ∧ w'.ownsRow w.heap.size 50 6 u 0 [] ∧ Below w.heap.size w w' := by
  rcases Nat.eq_zero_or_pos n with h0 | h0
  · subst h0
    refine (Any8.slices_Grow_room Tryd.growV none 0 0 0 w (Nat.le_refl _) (by omega) (by omega) (by omega)).mono ?_
    rintro e w' ⟨rfl, rfl⟩
    exact ⟨_, rfl, World.ownsRow_nil _ _ _ _, Below.refl _ _⟩
  · obtain ⟨i, hi, hz, hs, hb⟩ := info_parts elVal.info
    refine (Any8.slices_Grow_grow Tryd.growV i _ hi hz (by rw [hs]; decide) none 0 0 n [] w (Nat.le_refl _) (by omega) (by rw [hb]; omega) (by omega) (by simp) (fun _ => rfl) (fun a h => by cases h)).mono ?_
    rintro e w' ⟨rfl, rfl⟩
    have hle := grownCap_le_maxLen w (0 + n) 0 (Tryd.growV_ren.t 25) (by simp only [maxLen]; omega)
    have hge := grownCap_ge w (0 + n) 0 (Tryd.growV_ren.t 25)
    refine ⟨_, rfl, World.ownsRow_made (base := w.heap.size) (e := 50) (size := 6) w.drew _ _ (Nat.le_refl _) hle ?_, ((Below.refl _ _).drew.alloc (Nat.le_refl _) _)⟩
    rw [Array.size_append, Array.size_append, size_zeroCells, size_zeroCells, elVal.zs]
    generalize grownCap w (0 + n) 0 (Tryd.growV_ren.t 25) = G at *
    simp
    omega
theorem own_mono {w : World} {base B : Nat} {e : TypeId} {size n : Nat} {v : Value} {xs : List Value} (h : w.ownsRow base e size v n xs) (hB : B ≤ base) : w.ownsRow B e size v n xs := by
  refine ⟨h.1, ?_⟩
  rcases h.2 with hn | ⟨g, cap, cur, rfl, hb, rest⟩
  · exact .inl hn
  · exact .inr ⟨g, cap, cur, rfl, by omega, rest⟩
/-- A row of values, where it lies. -/
structure Rw where
  A : Option Addr
  l : List Val
  c : Nat
  css : List (List Value)
def Rw.cell (r : Rw) : Value := .slice r.A r.l.length r.c
theorem LR.app {α : Type} {R : α → List Value → Prop} {l l2 : List α} {css css2 : List (List Value)} (h : LR R l css) (h2 : LR R l2 css2) : LR R (l ++ l2) (css ++ css2) := by
  refine ⟨by rw [List.length_append, List.length_append, h.len, h2.len], fun i a c e1 e2 => ?_⟩
  by_cases hi : i < l.length
  · rw [List.getElem?_append_left hi] at e1
    rw [List.getElem?_append_left (by rw [h.len]; exact hi)] at e2
    exact h.at_ i a c e1 e2
  · rw [List.getElem?_append_right (by omega)] at e1
    rw [List.getElem?_append_right (by rw [h.len]; omega), h.len] at e2
    exact h2.at_ _ a c e1 e2
theorem rows_lr {w0 w : World} {P : Nat → Prop} : ∀ (rows : List Rw), (∀ r ∈ rows, Vs w0 w P r.l r.A r.css) → LR (VR w0 w P) (rows.flatMap Rw.l) (rows.flatMap Rw.css)
  | [], _ => LR.nil
  | r :: rows, h => by
    rw [List.flatMap_cons, List.flatMap_cons]
    exact (h r (List.mem_cons_self ..)).lr.app (rows_lr rows (fun x hx => h x (List.mem_cons_of_mem _ hx)))
theorem rows_take (rows : List Rw) (k : Nat) (r : Rw) (hk : rows[k]? = some r) : (rows.take (k + 1)).flatMap Rw.l = (rows.take k).flatMap Rw.l ++ r.l ∧ (rows.take (k + 1)).flatMap Rw.css = (rows.take k).flatMap Rw.css ++ r.css := by
  rw [List.take_add_one, hk]
  simp
theorem rows_le (rows : List Rw) (k : Nat) : ((rows.take k).flatMap Rw.l).length ≤ (rows.flatMap Rw.l).length := by
  conv => rhs; rw [← List.take_append_drop k rows, List.flatMap_append, List.length_append]
  omega
theorem vs_ones {w0 w : World} {P : Nat → Prop} {l : List Val} {A : Option Addr} {css : List (List Value)} (h : Vs w0 w P l A css) : ∀ u ∈ css.flatten, u.oneCell' = true := vrs_ones h.lr
set_option maxRecDepth 100000 in
set_option maxHeartbeats 4000000 in
theorem vconcat_any (w0 w : World) (P : Nat → Prop) (rows : List Rw) (A : Option Addr) (c : Nat) (hR : Rd w 1 A rows.length (rows.map Rw.cell)) (hV : ∀ r ∈ rows, Vs w0 w P r.l r.A r.css) (hm : (rows.flatMap Rw.l).length ≤ 100000000000) (hr : rows.length ≤ 4000000) :
    Calls Tryd.prog 47 #[.slice A rows.length c] w fun e w' => ∃ A' c', e = .returned (.slice A' (rows.flatMap Rw.l).length c') ∧ Vs w0 w' P (rows.flatMap Rw.l) A' (rows.flatMap Rw.css) ∧ Below w.heap.size w w' := by
  have HR := Lib.hid hR
  have HV := Lib.hid hV
  have HM := Lib.hid hm
  have HK : ∀ (wr : World), Below w.heap.size w wr → ∀ (k : Nat), k < rows.length → ∃ (b o : Nat) (r : Rw), A = some ⟨b, o, none⟩ ∧ rows[k]? = some r ∧ wr.cell? ⟨b, o + k, none⟩ = some (.slice r.A r.l.length r.c) ∧ Vs w0 wr P r.l r.A r.css := by
    intro wr hb k hk
    obtain ⟨b, o, e, hbl, hh⟩ := (HR.out.below hb).base (by rw [List.length_map]; omega)
    refine ⟨b, o, rows[k], e, List.getElem?_eq_getElem hk, ?_, (HV.out _ (List.getElem_mem hk)).below hb⟩
    have := hh k (Rw.cell rows[k]) (by rw [List.getElem?_map, List.getElem?_eq_getElem hk]; rfl)
    exact this
  have HKK := Lib.hid HK
  clear hR hV hm HK
  go_enter Tryd.func47, Tryd.ntmps47
  go_wp2_with fail
  go_loopw [3, 5, 11] (fun m _ i wr => ∃ k : Nat, i = .int .i64 k ∧ k ≤ rows.length ∧ m = .int .i64 ((rows.take k).flatMap Rw.l).length ∧ Below w.heap.size w wr) (fun _ _ i _ => rows.length - (intOf i).toNat)
  case atStart => exact ⟨0, rfl, by omega, rfl, Below.refl _ _⟩
  case round =>
    obtain ⟨k, rfl, hk, rfl, hb⟩ := hrel
    by_cases hlt : k < rows.length
    · obtain ⟨b, o, r, rfl, hkr, hcell, hvs⟩ := HKK.out _ hb k hlt
      have ht := (rows_take rows k r hkr).1
      have hle := rows_le rows (k + 1)
      rw [ht, List.length_append] at hle
      have hT : ((rows.take (k + 1)).flatMap Rw.l).length = ((rows.take k).flatMap Rw.l).length + r.l.length := by rw [ht, List.length_append]
      have HB := Lib.hid hb
      have HT := Lib.hid hT
      obtain ⟨T, hTT⟩ : ∃ T, ((rows.take k).flatMap Rw.l).length = T := ⟨_, rfl⟩
      obtain ⟨R, hRR⟩ : ∃ R, r.l.length = R := ⟨_, rfl⟩
      rw [hTT, hRR] at HT hle
      rw [hRR] at hcell
      rw [hTT]
      have hb1 : (T : Int) + R ≤ 100000000000 := by have := HM.out; omega
      have hb0 : (0 : Int) ≤ (T : Int) + R := by omega
      clear hT ht hvs hb hTT hRR hkr hle
      go_wp2_with fail
      go_roundw
      case rel => exact ⟨k + 1, by go_num, by omega, by rw [HT.out]; go_num, HB.out⟩
      case measure => simp [intOf] <;> omega
    · have hkk : k = rows.length := by omega
      subst hkk
      rw [List.take_length]
      obtain ⟨T, hTT⟩ : ∃ T, (rows.flatMap Rw.l).length = T := ⟨_, rfl⟩
      have HB := Lib.hid hb
      have HG := Lib.hid (fun (wr : World) => vgrow_any wr T (by have := HM.out; omega))
      rw [hTT]
      have HTT := Lib.hid hTT
      clear hb hTT hk
      go_wp2_with (go_at_call 53; (with_reducible refine (HG.out _).mono ?_); rintro e w1 ⟨u, rfl, hown, hb1⟩; have HO := Lib.hid (And.intro (own_mono hown HB.out.size) (below_then HB.out hb1)); clear hown hb1)
      go_loopw [6, 8, 27] (fun u _ i wr => ∃ k : Nat, i = .int .i64 k ∧ k ≤ rows.length ∧ wr.ownsRow w.heap.size 50 6 u ((rows.take k).flatMap Rw.l).length ((rows.take k).flatMap Rw.css).flatten ∧ Below w.heap.size w wr) (fun _ _ i _ => rows.length - (intOf i).toNat)
      case atStart => exact ⟨0, rfl, by omega, HO.out.1, HO.out.2⟩
      case round =>
        obtain ⟨k, rfl, hk, hown, hb⟩ := hrel
        by_cases hlt2 : k < rows.length
        · obtain ⟨b, o, r, rfl, hkr, hcell, hvs⟩ := HKK.out _ hb k hlt2
          obtain ⟨ht, ht2⟩ := rows_take rows k r hkr
          have hle := rows_le rows (k + 1)
          rw [ht, List.length_append] at hle
          have HT := Lib.hid (And.intro ht (And.intro ht2 hle))
          have HVS := Lib.hid hvs
          have HOW := Lib.hid hown
          have HB2 := Lib.hid hb
          clear ht ht2 hvs hown hb hkr hle
          go_wp2_with (at_builtin; refine wpList_app elVal _ rfl (.tmp 31) (.tmp 32) rfl w.heap.size _ _ _ rfl HOW.out r.A r.l.length r.c _ rfl HVS.out.rd (vs_ones HVS.out) (by have := HT.out.2.2; have := HM.out; omega) HB2.out.size ?_; intro v6 w6 hown6 hb6 hg6 hat6; have H6 := Lib.hid (And.intro hown6 hb6); clear hown6 hb6 hg6 hat6)
          go_roundw
          case rel => exact ⟨k + 1, by go_num, by omega, by rw [HT.out.1, HT.out.2.1, List.length_append, List.flatten_append]; exact H6.out.1, HB2.out.trans H6.out.2⟩
          case measure => simp [intOf] <;> omega
        · have hkk : k = rows.length := by omega
          subst hkk
          rw [List.take_length] at hown
          obtain ⟨A', c', rfl, hc'⟩ := own_cap hown
          have HOW := Lib.hid hown
          have HB2 := Lib.hid hb
          clear hown hb hk
          go_wp2_with fail
          go_returns
          exact ⟨A', c', rfl, ⟨Rd.of_own HOW.out, rows_lr rows (fun r hr => (HV.out r hr).below HB2.out)⟩, HB2.out⟩
end Go.Proofs.YtpdfjdomjklkbaaDoor

namespace Go.Proofs.YtpdfjdomjklkbaaDoor
open Go.ChangeShapes Go.WideShapes Go.ChangeAt Go.RowKit Go.Sort
set_option linter.unusedVariables false
set_option linter.unusedSimpArgs false

abbrev boxM (mb : Nat) : Obj := .cells #[.pointer (some ⟨mb, 0, none⟩)] 46
abbrev boxV (z : Val) (A : Option Addr) (c : Nat) (p : Option Addr) : Obj := .cells #[.int .i64 z.sort, .int .i64 z.n, .string (bstr z.s), .slice none 0 0, .slice A z.l.length c, .pointer p] 50
/-- Two new blocks. -/
theorem two_new (W : World) (n : Nat) (hn : W.heap.size = n) (o1 o2 : Obj) : ((W.alloc o1).alloc o2).drew.heap[n]? = some o1 ∧ ((W.alloc o1).alloc o2).drew.heap[n + 1]? = some o2 ∧ Below W.heap.size W ((W.alloc o1).alloc o2).drew := by
  subst hn
  refine ⟨(Below.heap_alloc _ _ _ (by rw [World.size_alloc]; omega)).trans (heap_new rfl), heap_new (World.size_alloc _ _), (((Below.refl _ _).alloc (Nat.le_refl _) _).alloc (by rw [World.size_alloc]; omega) _).drew⟩
def tupOf (kind : Int) (x f : Val) (i : Nat) : List Val :=
  if kind = 11 then f.l.take i ++ f.l.drop (i + 1)
  else if kind = 10 then f.l.take i ++ ([x] ++ f.l.drop i)
  else f.l.take i ++ ([x] ++ f.l.drop (i + 1))
def St.inTup (s : St) (kind : Int) (x y f : Val) : St :=
  if isTup f y (if kind = 10 then 1 else 0) = true then
    (if kind = 9 then { s with vals := s.vals ++ [f.l[y.n.toNat]?.getD (.mk 0 0 [] [] none)] } else { s with vals := s.vals ++ [.mk 4 0 [] (tupOf kind x f y.n.toNat) none] })
  else { s with err := 11 }
/-- A value's parts, where they lie. -/
theorem VR.vs {w0 w : World} {P : Nat → Prop} {z : Val} {A : Option Addr} {c : Nat} {p : Option Addr} (h : VR w0 w P z [.int .i64 z.sort, .int .i64 z.n, .string (bstr z.s), .slice none 0 0, .slice A z.l.length c, .pointer p]) :
    ∃ css, Vs w0 w P z.l A css ∧ (z.l.length ≤ c ∧ c ≤ maxLen) ∧ (0 < z.l.length → ∀ a, A = some a → P a.block) := by
  cases h with
  | mk sort n s l f A c css u len rd bl cap sub fn => exact ⟨css, ⟨rd, len, fun i v cs h1 h2 => sub i v cs h1 h2⟩, cap, bl⟩
theorem Vs.addr {w0 w : World} {P : Nat → Prop} {l : List Val} {A : Option Addr} {css : List (List Value)} (h : Vs w0 w P l A css) (hl : 0 < l.length) : ∃ b o, A = some ⟨b, o, none⟩ := by
  obtain ⟨b, o, e, _⟩ := h.rd.base (by rw [h.rd.1]; omega)
  exact ⟨b, o, e⟩
theorem isTup_iff {z y : Val} {m : Int} (h : isTup z y m = true) : z.sort = 4 ∧ y.sort = 1 ∧ ∃ k : Nat, y.n = k ∧ (k : Int) < z.l.length + m := by
  have h2 := of_decide_eq_true h
  exact ⟨h2.1, h2.2.1, y.n.toNat, by omega, by omega⟩
theorem keep2 {w0 w : World} {B mb : Nat} {s : St} {t i r v f0 nx nm : Value} {rcs vcs fcs : List (List Value)} (h : Rep w0 B mb s w t i r v f0 nx nm rcs vcs fcs) {wr w3 : World} {s' : St} {b : Nat} {u0 u2 : Value} (hbl : w.heap.size ≤ b) (hS : wr.cell? ⟨w.heap.size, 0, none⟩ = some u0 ∧ wr.cell? ⟨b, 4, none⟩ = some u2) (hp : Post w0 B mb (Mv mb t r v f0) wr s' w3) :
    w3.cell? ⟨w.heap.size, 0, none⟩ = some u0 ∧ w3.cell? ⟨b, 4, none⟩ = some u2 := by
  obtain ⟨t', i', r', v', f', nx', nm', rcs', vcs', fcs', h1, h2, h3⟩ := hp
  exact ⟨cell_tr h2 (h.mvNew _ (Nat.le_refl _)) hS.1, cell_tr h2 (h.mvNew _ hbl) hS.2⟩
theorem flat_drop6 {css : List (List Value)} (h : ∀ c ∈ css, c.length = 6) (n : Nat) : css.flatten.drop (n * 6) = (css.drop n).flatten := by
  induction css generalizing n with
  | nil => simp
  | cons x css ih =>
    cases n with
    | zero => simp
    | succ n =>
      have hx := h x (List.mem_cons_self ..)
      rw [List.flatten_cons, List.drop_succ_cons, List.drop_append, List.drop_of_length_le (by rw [hx]; omega), List.nil_append, hx, show (n + 1) * 6 - 6 = n * 6 from by omega, ih (fun c hc => h c (List.mem_cons_of_mem _ hc))]
theorem Vs.cut {w0 w : World} {P : Nat → Prop} {l : List Val} {A : Option Addr} {css : List (List Value)} (h : Vs w0 w P l A css) {lo hi : Nat} (h1 : lo ≤ hi) (h2 : hi ≤ l.length) : Vs w0 w P ((l.drop lo).take (hi - lo)) (A.map (fun x => x.add (lo * 6))) ((css.drop lo).take (hi - lo)) := by
  have h6 := VR.lens h.lr
  have e : ((css.drop lo).take (hi - lo)).flatten = (css.flatten.drop (lo * 6)).take ((hi - lo) * 6) := by
    rw [← flat_take2 (fun c hc => h6 c (List.mem_of_mem_drop hc)), ← flat_drop6 h6]
  refine ⟨?_, (h.lr.drop lo).take _⟩
  have := h.rd.cut (lo := lo) (hi := hi) (k := lo * 6) h1 h2 rfl
  rw [e, show ((l.drop lo).take (hi - lo)).length = hi - lo from by rw [List.length_take, List.length_drop]; omega]
  exact this
theorem Vs.take {w0 w : World} {P : Nat → Prop} {l : List Val} {a : Addr} {css : List (List Value)} (h : Vs w0 w P l (some a) css) (k : Nat) (hk : k ≤ l.length) : Vs w0 w P (l.take k) (some a) (css.take k) := by
  have := h.cut (lo := 0) (hi := k) (by omega) hk
  rw [Nat.zero_mul, List.drop_zero, List.drop_zero, Nat.sub_zero, Option.map_some, add_zero] at this
  exact this
theorem Vs.drop {w0 w : World} {P : Nat → Prop} {l : List Val} {a : Addr} {css : List (List Value)} (h : Vs w0 w P l (some a) css) (k : Nat) (hk : k ≤ l.length) : Vs w0 w P (l.drop k) (some (a.add (k * 6))) (css.drop k) := by
  have := h.cut (lo := k) (hi := l.length) hk (Nat.le_refl _)
  rw [Option.map_some, List.take_of_length_le (by rw [List.length_drop]; exact Nat.le_refl _), List.take_of_length_le (by rw [List.length_drop, h.lr.len]; exact Nat.le_refl _)] at this
  exact this
theorem Vs.dropC {w0 w : World} {P : Nat → Prop} {l : List Val} {a : Addr} {css : List (List Value)} (h : Vs w0 w P l (some a) css) (k : Nat) (hk : k ≤ l.length) (c : Nat) (hc : l.length ≤ c) : Vs w0 w P (l.drop k) (if c = k then some a else some (a.add (k * 6))) (css.drop k) := by
  split
  · rename_i e
    have e1 : l.drop k = [] := List.drop_eq_nil_of_le (by omega)
    have e2 : css.drop k = [] := List.drop_eq_nil_of_le (by rw [h.lr.len]; omega)
    rw [e1, e2]
    exact ⟨Rd.nil w 6 _, LR.nil⟩
  · exact h.drop k hk
theorem Vs.one {w0 w wr : World} {P : Nat → Prop} {x : Val} {l : List Val} {a : Addr} {css : List (List Value)} (h : Vs w0 w P (x :: l) (some a) css) (hb : Below w.heap.size w wr) : Vs w0 wr P [x] (some a) (css.take 1) := by
  have := (h.take 1 (by simp)).below hb
  exact this
section
variable {w0 w : World} {B mb : Nat} {s : St} {t i r v f0 nx nm : Value} {rcs vcs fcs : List (List Value)}
set_option maxRecDepth 100000 in
set_option maxHeartbeats 16000000 in
theorem inSelF (h : Rep w0 B mb s w t i r v f0 nx nm rcs vcs fcs) (hv : s.vals.length ≤ 100000000000) (x y : Val) (css : List (List Value)) (ab ao c : Nat) (hl : Vs w0 w (Mv mb t r v f0) [x, y] (some ⟨ab, ao, none⟩) css) (hx : x.l.length ≤ 90000000000) (hT : isTup x y 0 = false) :
    Calls Tryd.prog 38 #[.agg #[.pointer (some ⟨mb, 0, none⟩)], .int .i64 9, .slice (some ⟨ab, ao, none⟩) 2 c] w fun e1 w' => e1 = .returned (.tuple #[]) ∧ Post w0 B mb (Mv mb t r v f0) w (s.inTup 9 x y x) w' := by
  have hb : Below w.heap.size w (w.alloc (boxM mb)) := (Below.refl _ _).alloc (Nat.le_refl _) _
  obtain ⟨A0, kc0, p0, hz0, g00, g01, g02, g03, g04, g05⟩ := (hl.below hb).six 0 (z := x) rfl (ao) (ao + 1) (ao + 2) (ao + 3) (ao + 4) (ao + 5) ⟨by omega, by omega, by omega, by omega, by omega, by omega⟩
  obtain ⟨A1, kc1, p1, hz1, g10, g11, g12, g13, g14, g15⟩ := (hl.below hb).six 1 (z := y) rfl (ao + 6) (ao + 6 + 1) (ao + 6 + 2) (ao + 6 + 3) (ao + 6 + 4) (ao + 6 + 5) ⟨by omega, by omega, by omega, by omega, by omega, by omega⟩
  have HSK := Lib.hid (fun (V : World) (hb' : Below (w.alloc (boxM mb)).heap.size (w.alloc (boxM mb)) V) => (show V.cell? ⟨ab, ao, none⟩ = some (.int .i64 x.sort) ∧ V.cell? ⟨ab, ao + 1, none⟩ = some (.int .i64 x.n) ∧ V.cell? ⟨ab, ao + 2, none⟩ = some (.string (bstr x.s)) ∧ V.cell? ⟨ab, ao + 3, none⟩ = some (.slice none 0 0) ∧ V.cell? ⟨ab, ao + 4, none⟩ = some (.slice A0 x.l.length kc0) ∧ V.cell? ⟨ab, ao + 5, none⟩ = some (.pointer p0) ∧ V.cell? ⟨ab, ao + 6, none⟩ = some (.int .i64 y.sort) ∧ V.cell? ⟨ab, ao + 6 + 1, none⟩ = some (.int .i64 y.n) ∧ V.cell? ⟨ab, ao + 6 + 2, none⟩ = some (.string (bstr y.s)) ∧ V.cell? ⟨ab, ao + 6 + 3, none⟩ = some (.slice none 0 0) ∧ V.cell? ⟨ab, ao + 6 + 4, none⟩ = some (.slice A1 y.l.length kc1) ∧ V.cell? ⟨ab, ao + 6 + 5, none⟩ = some (.pointer p1) from ⟨cell_below hb' g00, cell_below hb' g01, cell_below hb' g02, cell_below hb' g03, cell_below hb' g04, cell_below hb' g05, cell_below hb' g10, cell_below hb' g11, cell_below hb' g12, cell_below hb' g13, cell_below hb' g14, cell_below hb' g15⟩))
  clear g00 g01 g02 g03 g04 g05 g10 g11 g12 g13 g14 g15
  have HX0 := Lib.hid (heap_new (w := w) (o := boxM mb) rfl)
  have HZ0 := Lib.hid hz0
  have HZ1 := Lib.hid hz1
  have HB := Lib.hid hb
  have HH := Lib.hid h
  have HV := Lib.hid hv
  have HXL := Lib.hid hx
  have HT1 := Lib.hid (two_new (w.alloc (boxM mb)) (w.heap.size + 1) (World.size_alloc _ _) (boxV x A0 kc0 p0) (boxV y A1 kc1 p1))
  have HT2 := Lib.hid (two_new (w.alloc (boxM mb)) (w.heap.size + 1) (World.size_alloc _ _) (boxV y A1 kc1 p1) (boxV x A0 kc0 p0))
  have HBM := Lib.hid (fun (wr : World) (hb : Below w.heap.size w wr) => And.intro (Tr.below (P := Mv mb t r v f0) hb) (hb.mono (Nat.le_of_lt (Nat.lt_of_le_of_lt h.base.2 h.lt))))
  have HS := Lib.hid (fun (wr : World) (hb : Below w.heap.size w wr) => stuck_any (h.below hb))
  have HE : s.inTup 9 x y x = { s with err := 11 } := by unfold St.inTup; rw [show (if (9 : Int) = 10 then (1 : Int) else 0) = 0 from rfl, hT, if_neg (by decide)]
  rw [HE]
  clear HE h hb hl hv hx hz0 hz1
  go_enter Tryd.func38, Tryd.ntmps38
  go_upto_region 1 with fail
  go_cut [6, 7, 8] (fun u6 u7 u8 wx => ∃ b1 b2 : Nat, u6 = .pointer (some ⟨b1, 0, none⟩) ∧ u7 = .pointer (some ⟨b2, 0, none⟩) ∧ u8 = .int .i64 0 ∧ w.heap.size < b1 ∧ w.heap.size < b2 ∧ b1 ≠ b2 ∧ wx.heap[b1]? = some (boxV x A0 kc0 p0) ∧ wx.heap[b2]? = some (boxV y A1 kc1 p1) ∧ Below (w.alloc (boxM mb)).heap.size (w.alloc (boxM mb)) wx)
  case first =>
    go_region_held3 (fun V => V.cell? ⟨ab, ao, none⟩ = some (.int .i64 x.sort) ∧ V.cell? ⟨ab, ao + 1, none⟩ = some (.int .i64 x.n) ∧ V.cell? ⟨ab, ao + 2, none⟩ = some (.string (bstr x.s)) ∧ V.cell? ⟨ab, ao + 3, none⟩ = some (.slice none 0 0) ∧ V.cell? ⟨ab, ao + 4, none⟩ = some (.slice A0 x.l.length kc0) ∧ V.cell? ⟨ab, ao + 5, none⟩ = some (.pointer p0) ∧ V.cell? ⟨ab, ao + 6, none⟩ = some (.int .i64 y.sort) ∧ V.cell? ⟨ab, ao + 6 + 1, none⟩ = some (.int .i64 y.n) ∧ V.cell? ⟨ab, ao + 6 + 2, none⟩ = some (.string (bstr y.s)) ∧ V.cell? ⟨ab, ao + 6 + 3, none⟩ = some (.slice none 0 0) ∧ V.cell? ⟨ab, ao + 6 + 4, none⟩ = some (.slice A1 y.l.length kc1) ∧ V.cell? ⟨ab, ao + 6 + 5, none⟩ = some (.pointer p1))
      (with_reducible exact HSK.out _ (by go_grown))
      (first | fail)
    all_goals
      clear HSK
      go_wp2_with fail
      go_meet
      first
        | exact ⟨w.heap.size + 1, w.heap.size + 2, rfl, rfl, rfl, by omega, by omega, by omega, HT1.out⟩
        | exact ⟨w.heap.size + 2, w.heap.size + 1, rfl, rfl, rfl, by omega, by omega, by omega, HT2.out.2.1, HT2.out.1, HT2.out.2.2⟩
  case rest =>
    obtain ⟨b1, b2, rfl, rfl, rfl, hb1g, hb2g, hb12, hq1, hq2, hbq⟩ := hcut
    clear HT1 HT2 HSK
    have HBW := Lib.hid (below_then HB.out hbq)
    have hc0 : wc.heap[w.heap.size]? = some (boxM mb) := (hbq.block _ (lt_of_heap HX0.out)).trans HX0.out
    have HQ := Lib.hid (And.intro hq1 (And.intro hq2 hc0))
    have HI := Lib.hid (isTuple_any wc b1 b2 x y 0 A0 A1 kc0 kc1 p0 p1 hq1 hq2 ⟨by decide, by decide⟩ (Nat.le_trans HXL.out (by decide)))
    rw [hT] at HI
    clear hq1 hq2 hbq hc0
    go_wp2_with (first
      | (go_at_call 46; (with_reducible refine HI.out.mono ?_); rintro e1 w1 ⟨rfl, hb1⟩; have c0 : w1.cell? ⟨w.heap.size, 0, none⟩ = some (.pointer (some ⟨mb, 0, none⟩)) := (by rw [Lib.cell_of_heap ((hb1.block _ (lt_of_heap HQ.out.2.2)).trans HQ.out.2.2)]; rfl); have HB1 := Lib.hid (below_then HBW.out hb1); clear hb1)
      | (go_at_call 22; (with_reducible refine (HS.out _ HB1.out).mono ?_); rintro e1 w2 ⟨rfl, hp⟩; have HP := Lib.hid hp; clear hp))
    go_returns
    with_reducible exact ⟨rfl, HP.out.mono (HBM.out _ HB1.out).1 (HBM.out _ HB1.out).2⟩
set_option maxRecDepth 100000 in
set_option maxHeartbeats 16000000 in
theorem inSelT (h : Rep w0 B mb s w t i r v f0 nx nm rcs vcs fcs) (hv : s.vals.length ≤ 100000000000) (x y : Val) (css : List (List Value)) (ab ao c : Nat) (hl : Vs w0 w (Mv mb t r v f0) [x, y] (some ⟨ab, ao, none⟩) css) (hx : x.l.length ≤ 90000000000) (hT : isTup x y 0 = true) :
    Calls Tryd.prog 38 #[.agg #[.pointer (some ⟨mb, 0, none⟩)], .int .i64 9, .slice (some ⟨ab, ao, none⟩) 2 c] w fun e1 w' => e1 = .returned (.tuple #[]) ∧ Post w0 B mb (Mv mb t r v f0) w (s.inTup 9 x y x) w' := by
  have hb : Below w.heap.size w (w.alloc (boxM mb)) := (Below.refl _ _).alloc (Nat.le_refl _) _
  obtain ⟨A0, kc0, p0, hz0, g00, g01, g02, g03, g04, g05⟩ := (hl.below hb).six 0 (z := x) rfl (ao) (ao + 1) (ao + 2) (ao + 3) (ao + 4) (ao + 5) ⟨by omega, by omega, by omega, by omega, by omega, by omega⟩
  obtain ⟨A1, kc1, p1, hz1, g10, g11, g12, g13, g14, g15⟩ := (hl.below hb).six 1 (z := y) rfl (ao + 6) (ao + 6 + 1) (ao + 6 + 2) (ao + 6 + 3) (ao + 6 + 4) (ao + 6 + 5) ⟨by omega, by omega, by omega, by omega, by omega, by omega⟩
  have HSK := Lib.hid (fun (V : World) (hb' : Below (w.alloc (boxM mb)).heap.size (w.alloc (boxM mb)) V) => (show V.cell? ⟨ab, ao, none⟩ = some (.int .i64 x.sort) ∧ V.cell? ⟨ab, ao + 1, none⟩ = some (.int .i64 x.n) ∧ V.cell? ⟨ab, ao + 2, none⟩ = some (.string (bstr x.s)) ∧ V.cell? ⟨ab, ao + 3, none⟩ = some (.slice none 0 0) ∧ V.cell? ⟨ab, ao + 4, none⟩ = some (.slice A0 x.l.length kc0) ∧ V.cell? ⟨ab, ao + 5, none⟩ = some (.pointer p0) ∧ V.cell? ⟨ab, ao + 6, none⟩ = some (.int .i64 y.sort) ∧ V.cell? ⟨ab, ao + 6 + 1, none⟩ = some (.int .i64 y.n) ∧ V.cell? ⟨ab, ao + 6 + 2, none⟩ = some (.string (bstr y.s)) ∧ V.cell? ⟨ab, ao + 6 + 3, none⟩ = some (.slice none 0 0) ∧ V.cell? ⟨ab, ao + 6 + 4, none⟩ = some (.slice A1 y.l.length kc1) ∧ V.cell? ⟨ab, ao + 6 + 5, none⟩ = some (.pointer p1) from ⟨cell_below hb' g00, cell_below hb' g01, cell_below hb' g02, cell_below hb' g03, cell_below hb' g04, cell_below hb' g05, cell_below hb' g10, cell_below hb' g11, cell_below hb' g12, cell_below hb' g13, cell_below hb' g14, cell_below hb' g15⟩))
  clear g00 g01 g02 g03 g04 g05 g10 g11 g12 g13 g14 g15
  have HX0 := Lib.hid (heap_new (w := w) (o := boxM mb) rfl)
  have HZ0 := Lib.hid hz0
  have HZ1 := Lib.hid hz1
  have HB := Lib.hid hb
  have HH := Lib.hid h
  have HV := Lib.hid hv
  have HXL := Lib.hid hx
  have HT1 := Lib.hid (two_new (w.alloc (boxM mb)) (w.heap.size + 1) (World.size_alloc _ _) (boxV x A0 kc0 p0) (boxV y A1 kc1 p1))
  have HT2 := Lib.hid (two_new (w.alloc (boxM mb)) (w.heap.size + 1) (World.size_alloc _ _) (boxV y A1 kc1 p1) (boxV x A0 kc0 p0))
  have HBM := Lib.hid (fun (wr : World) (hb : Below w.heap.size w wr) => And.intro (Tr.below (P := Mv mb t r v f0) hb) (hb.mono (Nat.le_of_lt (Nat.lt_of_le_of_lt h.base.2 h.lt))))
  obtain ⟨ht4, ht1, k, hyn, hk⟩ := isTup_iff hT
  have hk' : k < x.l.length := by omega
  obtain ⟨csx, hvx, hcx, hpx⟩ := hz0.vs
  obtain ⟨fb, fo, hA0⟩ := hvx.addr (by omega)
  subst hA0
  have hkk := List.getElem?_eq_getElem hk'
  have HE : s.inTup 9 x y x = { s with vals := s.vals ++ [x.l[k]] } := by unfold St.inTup; rw [show (if (9 : Int) = 10 then (1 : Int) else 0) = 0 from rfl, hT, if_pos rfl, if_pos rfl, hyn, Int.toNat_natCast, hkk, Option.getD_some]
  rw [HE]
  obtain ⟨z, hz⟩ : ∃ z, x.l[k] = z := ⟨_, rfl⟩
  rw [hz] at hkk ⊢
  have HTL := Lib.hid (fun (wr : World) (hb : Below w.heap.size w wr) (A : Option Addr) (c : Nat) (p : Option Addr) hz => tell_any (h.below hb) hv z (A := A) (c := c) (p := p) hz)
  obtain ⟨Az, cz, pz, hvz, e0, e1, e2, e3, e4, e5⟩ := hvx.six k hkk (fo + k * 6) (fo + k * 6 + 1) (fo + k * 6 + 2) (fo + k * 6 + 3) (fo + k * 6 + 4) (fo + k * 6 + 5) ⟨rfl, rfl, rfl, rfl, rfl, rfl⟩
  have HEL := Lib.hid (fun (wr : World) (hb' : Below (w.alloc (boxM mb)).heap.size (w.alloc (boxM mb)) wr) => And.intro (cell_below hb' e0) (And.intro (cell_below hb' e1) (And.intro (cell_below hb' e2) (And.intro (cell_below hb' e3) (And.intro (cell_below hb' e4) (cell_below hb' e5))))))
  have HVZ := Lib.hid (fun (wr : World) (hb' : Below (w.alloc (boxM mb)).heap.size (w.alloc (boxM mb)) wr) => hvz.keep (Tr.below hb'))
  have HN := Lib.hid (And.intro hyn (And.intro hk' hx))
  clear HE h hb hl hv hx hz0 hz1 hz hkk hvx e0 e1 e2 e3 e4 e5 hvz hk hk' hyn ht4 ht1 hcx hpx
  go_enter Tryd.func38, Tryd.ntmps38
  go_upto_region 1 with fail
  go_cut [6, 7, 8] (fun u6 u7 u8 wx => ∃ b1 b2 : Nat, u6 = .pointer (some ⟨b1, 0, none⟩) ∧ u7 = .pointer (some ⟨b2, 0, none⟩) ∧ u8 = .int .i64 0 ∧ w.heap.size < b1 ∧ w.heap.size < b2 ∧ b1 ≠ b2 ∧ wx.heap[b1]? = some (boxV x (some ⟨fb, fo, none⟩) kc0 p0) ∧ wx.heap[b2]? = some (boxV y A1 kc1 p1) ∧ Below (w.alloc (boxM mb)).heap.size (w.alloc (boxM mb)) wx)
  case first =>
    go_region_held3 (fun V => V.cell? ⟨ab, ao, none⟩ = some (.int .i64 x.sort) ∧ V.cell? ⟨ab, ao + 1, none⟩ = some (.int .i64 x.n) ∧ V.cell? ⟨ab, ao + 2, none⟩ = some (.string (bstr x.s)) ∧ V.cell? ⟨ab, ao + 3, none⟩ = some (.slice none 0 0) ∧ V.cell? ⟨ab, ao + 4, none⟩ = some (.slice (some ⟨fb, fo, none⟩) x.l.length kc0) ∧ V.cell? ⟨ab, ao + 5, none⟩ = some (.pointer p0) ∧ V.cell? ⟨ab, ao + 6, none⟩ = some (.int .i64 y.sort) ∧ V.cell? ⟨ab, ao + 6 + 1, none⟩ = some (.int .i64 y.n) ∧ V.cell? ⟨ab, ao + 6 + 2, none⟩ = some (.string (bstr y.s)) ∧ V.cell? ⟨ab, ao + 6 + 3, none⟩ = some (.slice none 0 0) ∧ V.cell? ⟨ab, ao + 6 + 4, none⟩ = some (.slice A1 y.l.length kc1) ∧ V.cell? ⟨ab, ao + 6 + 5, none⟩ = some (.pointer p1))
      (with_reducible exact HSK.out _ (by go_grown))
      (first | fail)
    all_goals
      clear HSK
      go_wp2_with fail
      go_meet
      first
        | exact ⟨w.heap.size + 1, w.heap.size + 2, rfl, rfl, rfl, by omega, by omega, by omega, HT1.out⟩
        | exact ⟨w.heap.size + 2, w.heap.size + 1, rfl, rfl, rfl, by omega, by omega, by omega, HT2.out.2.1, HT2.out.1, HT2.out.2.2⟩
  case rest =>
    obtain ⟨b1, b2, rfl, rfl, rfl, hb1g, hb2g, hb12, hq1, hq2, hbq⟩ := hcut
    clear HT1 HT2 HSK
    have HBW := Lib.hid (below_then HB.out hbq)
    have hc0 : wc.heap[w.heap.size]? = some (boxM mb) := (hbq.block _ (lt_of_heap HX0.out)).trans HX0.out
    have HQ := Lib.hid (And.intro hq1 (And.intro hq2 hc0))
    have HI := Lib.hid (isTuple_any wc b1 b2 x y 0 (some ⟨fb, fo, none⟩) A1 kc0 kc1 p0 p1 hq1 hq2 ⟨by decide, by decide⟩ (Nat.le_trans HXL.out (by decide)))
    rw [hT] at HI
    have HBQ := Lib.hid hbq
    clear hq1 hq2 hbq hc0
    have n0 : (0 : Int) ≤ (k : Int) := by omega
    have n1 : (k : Int) < (x.l.length : Int) := by have := HN.out.2.1; omega
    have n2 : (x.l.length : Int) ≤ 100000000000 := by have := HN.out.2.2; omega
    go_upto_region 11 with (go_at_call 46; (with_reducible refine HI.out.mono ?_); rintro e1 w1 ⟨rfl, hb1⟩; have c0 : w1.cell? ⟨w.heap.size, 0, none⟩ = some (.pointer (some ⟨mb, 0, none⟩)) := (by rw [Lib.cell_of_heap ((hb1.block _ (lt_of_heap HQ.out.2.2)).trans HQ.out.2.2)]; rfl); obtain ⟨y0, y1, y2, y3, y4, y5⟩ := cells6 ((hb1.block _ (lt_of_heap HQ.out.1)).trans HQ.out.1); obtain ⟨x0, x1, x2, x3, x4, x5⟩ := cells6 ((hb1.block _ (lt_of_heap HQ.out.2.1)).trans HQ.out.2.1); rw [HN.out.1] at x1; have hbw := below_then HBQ.out hb1; obtain ⟨e0, e1, e2, e3, e4, e5⟩ := HEL.out _ hbw; have HB1 := Lib.hid (below_then HBW.out hb1); have HT := Lib.hid (HTL.out _ (Below.drew (below_then HBW.out hb1)) _ _ _ (HVZ.out _ (Below.drew hbw))); clear hb1 hbw)
    go_region_law (go_simp; go_at_call 23; (with_reducible refine HT.out.mono ?_); rintro e1 w2 ⟨rfl, hp⟩; have HP := Lib.hid hp; clear hp)
    all_goals
      go_wp2_with fail
      go_returns
      with_reducible exact ⟨rfl, HP.out.mono (HBM.out _ (Below.drew HB1.out)).1 (HBM.out _ (Below.drew HB1.out)).2⟩
set_option maxRecDepth 100000 in
set_option maxHeartbeats 16000000 in
theorem inDelF (h : Rep w0 B mb s w t i r v f0 nx nm rcs vcs fcs) (hv : s.vals.length ≤ 100000000000) (x y : Val) (css : List (List Value)) (ab ao c : Nat) (hl : Vs w0 w (Mv mb t r v f0) [x, y] (some ⟨ab, ao, none⟩) css) (hx : x.l.length ≤ 90000000000) (hT : isTup x y 0 = false) :
    Calls Tryd.prog 38 #[.agg #[.pointer (some ⟨mb, 0, none⟩)], .int .i64 11, .slice (some ⟨ab, ao, none⟩) 2 c] w fun e1 w' => e1 = .returned (.tuple #[]) ∧ Post w0 B mb (Mv mb t r v f0) w (s.inTup 11 x y x) w' := by
  have hb : Below w.heap.size w (w.alloc (boxM mb)) := (Below.refl _ _).alloc (Nat.le_refl _) _
  obtain ⟨A0, kc0, p0, hz0, g00, g01, g02, g03, g04, g05⟩ := (hl.below hb).six 0 (z := x) rfl (ao) (ao + 1) (ao + 2) (ao + 3) (ao + 4) (ao + 5) ⟨by omega, by omega, by omega, by omega, by omega, by omega⟩
  obtain ⟨A1, kc1, p1, hz1, g10, g11, g12, g13, g14, g15⟩ := (hl.below hb).six 1 (z := y) rfl (ao + 6) (ao + 6 + 1) (ao + 6 + 2) (ao + 6 + 3) (ao + 6 + 4) (ao + 6 + 5) ⟨by omega, by omega, by omega, by omega, by omega, by omega⟩
  have HSK := Lib.hid (fun (V : World) (hb' : Below (w.alloc (boxM mb)).heap.size (w.alloc (boxM mb)) V) => (show V.cell? ⟨ab, ao, none⟩ = some (.int .i64 x.sort) ∧ V.cell? ⟨ab, ao + 1, none⟩ = some (.int .i64 x.n) ∧ V.cell? ⟨ab, ao + 2, none⟩ = some (.string (bstr x.s)) ∧ V.cell? ⟨ab, ao + 3, none⟩ = some (.slice none 0 0) ∧ V.cell? ⟨ab, ao + 4, none⟩ = some (.slice A0 x.l.length kc0) ∧ V.cell? ⟨ab, ao + 5, none⟩ = some (.pointer p0) ∧ V.cell? ⟨ab, ao + 6, none⟩ = some (.int .i64 y.sort) ∧ V.cell? ⟨ab, ao + 6 + 1, none⟩ = some (.int .i64 y.n) ∧ V.cell? ⟨ab, ao + 6 + 2, none⟩ = some (.string (bstr y.s)) ∧ V.cell? ⟨ab, ao + 6 + 3, none⟩ = some (.slice none 0 0) ∧ V.cell? ⟨ab, ao + 6 + 4, none⟩ = some (.slice A1 y.l.length kc1) ∧ V.cell? ⟨ab, ao + 6 + 5, none⟩ = some (.pointer p1) from ⟨cell_below hb' g00, cell_below hb' g01, cell_below hb' g02, cell_below hb' g03, cell_below hb' g04, cell_below hb' g05, cell_below hb' g10, cell_below hb' g11, cell_below hb' g12, cell_below hb' g13, cell_below hb' g14, cell_below hb' g15⟩))
  clear g00 g01 g02 g03 g04 g05 g10 g11 g12 g13 g14 g15
  have HX0 := Lib.hid (heap_new (w := w) (o := boxM mb) rfl)
  have HZ0 := Lib.hid hz0
  have HZ1 := Lib.hid hz1
  have HB := Lib.hid hb
  have HH := Lib.hid h
  have HV := Lib.hid hv
  have HXL := Lib.hid hx
  have HT1 := Lib.hid (two_new (w.alloc (boxM mb)) (w.heap.size + 1) (World.size_alloc _ _) (boxV x A0 kc0 p0) (boxV y A1 kc1 p1))
  have HT2 := Lib.hid (two_new (w.alloc (boxM mb)) (w.heap.size + 1) (World.size_alloc _ _) (boxV y A1 kc1 p1) (boxV x A0 kc0 p0))
  have HBM := Lib.hid (fun (wr : World) (hb : Below w.heap.size w wr) => And.intro (Tr.below (P := Mv mb t r v f0) hb) (hb.mono (Nat.le_of_lt (Nat.lt_of_le_of_lt h.base.2 h.lt))))
  have HS := Lib.hid (fun (wr : World) (hb : Below w.heap.size w wr) => stuck_any (h.below hb))
  have HE : s.inTup 11 x y x = { s with err := 11 } := by unfold St.inTup; rw [show (if (11 : Int) = 10 then (1 : Int) else 0) = 0 from rfl, hT, if_neg (by decide)]
  rw [HE]
  clear HE h hb hl hv hx hz0 hz1
  go_enter Tryd.func38, Tryd.ntmps38
  go_upto_region 1 with fail
  go_cut [6, 7, 8] (fun u6 u7 u8 wx => ∃ b1 b2 : Nat, u6 = .pointer (some ⟨b1, 0, none⟩) ∧ u7 = .pointer (some ⟨b2, 0, none⟩) ∧ u8 = .int .i64 0 ∧ w.heap.size < b1 ∧ w.heap.size < b2 ∧ b1 ≠ b2 ∧ wx.heap[b1]? = some (boxV x A0 kc0 p0) ∧ wx.heap[b2]? = some (boxV y A1 kc1 p1) ∧ Below (w.alloc (boxM mb)).heap.size (w.alloc (boxM mb)) wx)
  case first =>
    go_region_held3 (fun V => V.cell? ⟨ab, ao, none⟩ = some (.int .i64 x.sort) ∧ V.cell? ⟨ab, ao + 1, none⟩ = some (.int .i64 x.n) ∧ V.cell? ⟨ab, ao + 2, none⟩ = some (.string (bstr x.s)) ∧ V.cell? ⟨ab, ao + 3, none⟩ = some (.slice none 0 0) ∧ V.cell? ⟨ab, ao + 4, none⟩ = some (.slice A0 x.l.length kc0) ∧ V.cell? ⟨ab, ao + 5, none⟩ = some (.pointer p0) ∧ V.cell? ⟨ab, ao + 6, none⟩ = some (.int .i64 y.sort) ∧ V.cell? ⟨ab, ao + 6 + 1, none⟩ = some (.int .i64 y.n) ∧ V.cell? ⟨ab, ao + 6 + 2, none⟩ = some (.string (bstr y.s)) ∧ V.cell? ⟨ab, ao + 6 + 3, none⟩ = some (.slice none 0 0) ∧ V.cell? ⟨ab, ao + 6 + 4, none⟩ = some (.slice A1 y.l.length kc1) ∧ V.cell? ⟨ab, ao + 6 + 5, none⟩ = some (.pointer p1))
      (with_reducible exact HSK.out _ (by go_grown))
      (first | fail)
    all_goals
      clear HSK
      go_wp2_with fail
      go_meet
      first
        | exact ⟨w.heap.size + 1, w.heap.size + 2, rfl, rfl, rfl, by omega, by omega, by omega, HT1.out⟩
        | exact ⟨w.heap.size + 2, w.heap.size + 1, rfl, rfl, rfl, by omega, by omega, by omega, HT2.out.2.1, HT2.out.1, HT2.out.2.2⟩
  case rest =>
    obtain ⟨b1, b2, rfl, rfl, rfl, hb1g, hb2g, hb12, hq1, hq2, hbq⟩ := hcut
    clear HT1 HT2 HSK
    have HBW := Lib.hid (below_then HB.out hbq)
    have hc0 : wc.heap[w.heap.size]? = some (boxM mb) := (hbq.block _ (lt_of_heap HX0.out)).trans HX0.out
    have HQ := Lib.hid (And.intro hq1 (And.intro hq2 hc0))
    have HI := Lib.hid (isTuple_any wc b1 b2 x y 0 A0 A1 kc0 kc1 p0 p1 hq1 hq2 ⟨by decide, by decide⟩ (Nat.le_trans HXL.out (by decide)))
    rw [hT] at HI
    clear hq1 hq2 hbq hc0
    go_wp2_with (first
      | (go_at_call 46; (with_reducible refine HI.out.mono ?_); rintro e1 w1 ⟨rfl, hb1⟩; have c0 : w1.cell? ⟨w.heap.size, 0, none⟩ = some (.pointer (some ⟨mb, 0, none⟩)) := (by rw [Lib.cell_of_heap ((hb1.block _ (lt_of_heap HQ.out.2.2)).trans HQ.out.2.2)]; rfl); have HB1 := Lib.hid (below_then HBW.out hb1); clear hb1)
      | (go_at_call 22; (with_reducible refine (HS.out _ HB1.out).mono ?_); rintro e1 w2 ⟨rfl, hp⟩; have HP := Lib.hid hp; clear hp))
    go_returns
    with_reducible exact ⟨rfl, HP.out.mono (HBM.out _ HB1.out).1 (HBM.out _ HB1.out).2⟩
set_option maxRecDepth 100000 in
set_option maxHeartbeats 16000000 in
theorem inDelT (h : Rep w0 B mb s w t i r v f0 nx nm rcs vcs fcs) (hv : s.vals.length ≤ 100000000000) (x y : Val) (css : List (List Value)) (ab ao c : Nat) (hl : Vs w0 w (Mv mb t r v f0) [x, y] (some ⟨ab, ao, none⟩) css) (hx : x.l.length ≤ 90000000000) (hT : isTup x y 0 = true) :
    Calls Tryd.prog 38 #[.agg #[.pointer (some ⟨mb, 0, none⟩)], .int .i64 11, .slice (some ⟨ab, ao, none⟩) 2 c] w fun e1 w' => e1 = .returned (.tuple #[]) ∧ Post w0 B mb (Mv mb t r v f0) w (s.inTup 11 x y x) w' := by
  have hb : Below w.heap.size w (w.alloc (boxM mb)) := (Below.refl _ _).alloc (Nat.le_refl _) _
  obtain ⟨A0, kc0, p0, hz0, g00, g01, g02, g03, g04, g05⟩ := (hl.below hb).six 0 (z := x) rfl (ao) (ao + 1) (ao + 2) (ao + 3) (ao + 4) (ao + 5) ⟨by omega, by omega, by omega, by omega, by omega, by omega⟩
  obtain ⟨A1, kc1, p1, hz1, g10, g11, g12, g13, g14, g15⟩ := (hl.below hb).six 1 (z := y) rfl (ao + 6) (ao + 6 + 1) (ao + 6 + 2) (ao + 6 + 3) (ao + 6 + 4) (ao + 6 + 5) ⟨by omega, by omega, by omega, by omega, by omega, by omega⟩
  have HSK := Lib.hid (fun (V : World) (hb' : Below (w.alloc (boxM mb)).heap.size (w.alloc (boxM mb)) V) => (show V.cell? ⟨ab, ao, none⟩ = some (.int .i64 x.sort) ∧ V.cell? ⟨ab, ao + 1, none⟩ = some (.int .i64 x.n) ∧ V.cell? ⟨ab, ao + 2, none⟩ = some (.string (bstr x.s)) ∧ V.cell? ⟨ab, ao + 3, none⟩ = some (.slice none 0 0) ∧ V.cell? ⟨ab, ao + 4, none⟩ = some (.slice A0 x.l.length kc0) ∧ V.cell? ⟨ab, ao + 5, none⟩ = some (.pointer p0) ∧ V.cell? ⟨ab, ao + 6, none⟩ = some (.int .i64 y.sort) ∧ V.cell? ⟨ab, ao + 6 + 1, none⟩ = some (.int .i64 y.n) ∧ V.cell? ⟨ab, ao + 6 + 2, none⟩ = some (.string (bstr y.s)) ∧ V.cell? ⟨ab, ao + 6 + 3, none⟩ = some (.slice none 0 0) ∧ V.cell? ⟨ab, ao + 6 + 4, none⟩ = some (.slice A1 y.l.length kc1) ∧ V.cell? ⟨ab, ao + 6 + 5, none⟩ = some (.pointer p1) from ⟨cell_below hb' g00, cell_below hb' g01, cell_below hb' g02, cell_below hb' g03, cell_below hb' g04, cell_below hb' g05, cell_below hb' g10, cell_below hb' g11, cell_below hb' g12, cell_below hb' g13, cell_below hb' g14, cell_below hb' g15⟩))
  clear g00 g01 g02 g03 g04 g05 g10 g11 g12 g13 g14 g15
  have HX0 := Lib.hid (heap_new (w := w) (o := boxM mb) rfl)
  have HZ0 := Lib.hid hz0
  have HZ1 := Lib.hid hz1
  have HB := Lib.hid hb
  have HH := Lib.hid h
  have HV := Lib.hid hv
  have HXL := Lib.hid hx
  have HT1 := Lib.hid (two_new (w.alloc (boxM mb)) (w.heap.size + 1) (World.size_alloc _ _) (boxV x A0 kc0 p0) (boxV y A1 kc1 p1))
  have HT2 := Lib.hid (two_new (w.alloc (boxM mb)) (w.heap.size + 1) (World.size_alloc _ _) (boxV y A1 kc1 p1) (boxV x A0 kc0 p0))
  have HBM := Lib.hid (fun (wr : World) (hb : Below w.heap.size w wr) => And.intro (Tr.below (P := Mv mb t r v f0) hb) (hb.mono (Nat.le_of_lt (Nat.lt_of_le_of_lt h.base.2 h.lt))))
  obtain ⟨ht4, ht1, k, hyn, hk⟩ := isTup_iff hT
  have hk' : k < x.l.length := by omega
  obtain ⟨csx, hvx, hcx, hpx⟩ := hz0.vs
  obtain ⟨a, rfl⟩ : ∃ a, A0 = some a := by
    obtain ⟨fb, fo, e⟩ := hvx.addr (by omega)
    exact ⟨_, e⟩
  have hkl : k ≤ x.l.length := by omega
  have hd3 := hvx.dropC (k + 1) (by omega) kc0 (by omega)
  obtain ⟨A3, hA3⟩ : ∃ A3, (if kc0 = k + 1 then some a else some (a.add ((k + 1) * 6))) = A3 := ⟨_, rfl⟩
  rw [hA3] at hd3
  have HE : s.inTup 11 x y x = { s with vals := s.vals ++ [.mk 4 0 [] (tupOf 11 x x k) none] } := by unfold St.inTup; rw [show (if (11 : Int) = 10 then (1 : Int) else 0) = 0 from rfl, hT, if_pos rfl, if_neg (by decide), hyn, Int.toNat_natCast]
  rw [HE]
  have hrl : (([⟨some a, x.l.take k, kc0, csx.take k⟩, ⟨A3, x.l.drop (k + 1), kc0 - (k + 1), csx.drop (k + 1)⟩] : List Rw).flatMap Rw.l) = tupOf 11 x x k := by simp [tupOf]
  obtain ⟨L, hL⟩ : ∃ L, tupOf 11 x x k = L := ⟨_, rfl⟩
  rw [hL] at hrl ⊢
  have hLl : L.length ≤ 100000000000 := by rw [← hrl]; simp; omega
  have hrows : ∀ q ∈ ([⟨some a, x.l.take k, kc0, csx.take k⟩, ⟨A3, x.l.drop (k + 1), kc0 - (k + 1), csx.drop (k + 1)⟩] : List Rw), Vs w0 (w.alloc (boxM mb)) (Mv mb t r v f0) q.l q.A q.css := by
    intro q hr
    simp only [List.mem_cons, List.not_mem_nil, or_false] at hr
    rcases hr with rfl | rfl
    · exact hvx.take k hkl
    · exact hd3
  have HCC := Lib.hid (fun (wr : World) (g : Nat) (hb' : Below (w.alloc (boxM mb)).heap.size (w.alloc (boxM mb)) wr) (hR : Rd wr 1 (some ⟨g, 0, none⟩) 2 [.slice (some a) k kc0, .slice A3 (x.l.length - (k + 1)) (kc0 - (k + 1))]) => (show Calls Tryd.prog 47 #[.slice (some ⟨g, 0, none⟩) 2 2] wr fun e w' => ∃ A' c' css', e = .returned (.slice A' L.length c') ∧ Vs w0 w' (Mv mb t r v f0) L A' css' ∧ Below wr.heap.size wr w' from
    (vconcat_any w0 wr (Mv mb t r v f0) [⟨some a, x.l.take k, kc0, csx.take k⟩, ⟨A3, x.l.drop (k + 1), kc0 - (k + 1), csx.drop (k + 1)⟩] (some ⟨g, 0, none⟩) 2 (by simpa [Rw.cell, hkl] using hR) (fun q hr => (hrows q hr).below hb') (by rw [hrl]; omega) (by simp)).mono fun e w' ⟨A', c', h1, h2, h3⟩ => ⟨A', c', _, by rw [← hrl]; exact h1, by rw [← hrl]; exact h2, h3⟩))
  have HTU := Lib.hid (fun (wr : World) (A' : Option Addr) (c' : Nat) (css' : List (List Value)) (hb' : Below w.heap.size w wr) (hV : Vs w0 wr (Mv mb t r v f0) L A' css') => tuple_any w0 wr (Mv mb t r v f0) (fun b hbb => h.mvNew b (Nat.le_trans hb'.size hbb)) A' L css' c' hV hLl)
  have HTL := Lib.hid (fun (wr : World) (A' : Option Addr) (c' : Nat) (hb' : Below w.heap.size w wr) (hz : VR w0 wr (Mv mb t r v f0) (.mk 4 0 [] L none) [.int .i64 4, .int .i64 0, .string (bstr []), .slice none 0 0, .slice A' L.length c', .pointer none]) => (show Calls Tryd.prog 23 #[.pointer (some ⟨mb, 0, none⟩), .agg #[.int .i64 4, .int .i64 0, .string ⟨#[]⟩, .slice none 0 0, .slice A' L.length c', .pointer none]] wr fun e w' => e = .returned (.tuple #[]) ∧ Post w0 B mb (Mv mb t r v f0) wr { s with vals := s.vals ++ [.mk 4 0 [] L none] } w' from tell_any (h.below hb') hv (.mk 4 0 [] L none) (A := A') (c := c') (p := none) hz))
  have HN := Lib.hid (And.intro hyn (And.intro hk' (And.intro hx hcx)))
  have HKP := Lib.hid (fun (wr w3 : World) (s' : St) (b : Nat) (u0 u2 : Value) (hb' : Below w.heap.size w wr) (hbl : w.heap.size ≤ b) (hS : wr.cell? ⟨w.heap.size, 0, none⟩ = some u0 ∧ wr.cell? ⟨b, 4, none⟩ = some u2) (hp : Post w0 B mb (Mv mb t r v f0) wr s' w3) => keep2 h hbl hS hp)
  clear HE h hb hl hv hx hz0 hz1 hkl hrl hL hLl hrows hvx hd3 hk hk' hyn ht4 ht1 hcx hpx
  go_enter Tryd.func38, Tryd.ntmps38
  go_upto_region 1 with fail
  go_cut [6, 7, 8] (fun u6 u7 u8 wx => ∃ b1 b2 : Nat, u6 = .pointer (some ⟨b1, 0, none⟩) ∧ u7 = .pointer (some ⟨b2, 0, none⟩) ∧ u8 = .int .i64 0 ∧ w.heap.size < b1 ∧ w.heap.size < b2 ∧ b1 ≠ b2 ∧ wx.heap[b1]? = some (boxV x (some a) kc0 p0) ∧ wx.heap[b2]? = some (boxV y A1 kc1 p1) ∧ Below (w.alloc (boxM mb)).heap.size (w.alloc (boxM mb)) wx)
  case first =>
    go_region_held3 (fun V => V.cell? ⟨ab, ao, none⟩ = some (.int .i64 x.sort) ∧ V.cell? ⟨ab, ao + 1, none⟩ = some (.int .i64 x.n) ∧ V.cell? ⟨ab, ao + 2, none⟩ = some (.string (bstr x.s)) ∧ V.cell? ⟨ab, ao + 3, none⟩ = some (.slice none 0 0) ∧ V.cell? ⟨ab, ao + 4, none⟩ = some (.slice (some a) x.l.length kc0) ∧ V.cell? ⟨ab, ao + 5, none⟩ = some (.pointer p0) ∧ V.cell? ⟨ab, ao + 6, none⟩ = some (.int .i64 y.sort) ∧ V.cell? ⟨ab, ao + 6 + 1, none⟩ = some (.int .i64 y.n) ∧ V.cell? ⟨ab, ao + 6 + 2, none⟩ = some (.string (bstr y.s)) ∧ V.cell? ⟨ab, ao + 6 + 3, none⟩ = some (.slice none 0 0) ∧ V.cell? ⟨ab, ao + 6 + 4, none⟩ = some (.slice A1 y.l.length kc1) ∧ V.cell? ⟨ab, ao + 6 + 5, none⟩ = some (.pointer p1))
      (with_reducible exact HSK.out _ (by go_grown))
      (first | fail)
    all_goals
      clear HSK
      go_wp2_with fail
      go_meet
      first
        | exact ⟨w.heap.size + 1, w.heap.size + 2, rfl, rfl, rfl, by omega, by omega, by omega, HT1.out⟩
        | exact ⟨w.heap.size + 2, w.heap.size + 1, rfl, rfl, rfl, by omega, by omega, by omega, HT2.out.2.1, HT2.out.1, HT2.out.2.2⟩
  case rest =>
    obtain ⟨b1, b2, rfl, rfl, rfl, hb1g, hb2g, hb12, hq1, hq2, hbq⟩ := hcut
    clear HT1 HT2 HSK
    have HBW := Lib.hid (below_then HB.out hbq)
    have hc0 : wc.heap[w.heap.size]? = some (boxM mb) := (hbq.block _ (lt_of_heap HX0.out)).trans HX0.out
    have HQ := Lib.hid (And.intro hq1 (And.intro hq2 hc0))
    have HI := Lib.hid (isTuple_any wc b1 b2 x y 0 (some a) A1 kc0 kc1 p0 p1 hq1 hq2 ⟨by decide, by decide⟩ (Nat.le_trans HXL.out (by decide)))
    rw [hT] at HI
    have HBQ := Lib.hid hbq
    clear hq1 hq2 hbq hc0
    have n0 : (0 : Int) ≤ (k : Int) := by omega
    have n1 : (k : Int) < (x.l.length : Int) := by have := HN.out.2.1; omega
    have n2 : (x.l.length : Int) ≤ 100000000000 := by have := HN.out.2.2.1; omega
    have n3 : (x.l.length : Int) ≤ (kc0 : Int) := by have := HN.out.2.2.2.1; omega
    have n4 : (k : Int) ≤ (kc0 : Int) := by omega
    have n7 : (kc0 : Int) ≤ 9223372036854775807 := by have := HN.out.2.2.2.2; simp only [maxLen] at this; omega
    have n5 : (k : Int) + 1 ≤ (x.l.length : Int) := by omega
    have n6 : (0 : Int) ≤ (k : Int) + 1 := by omega
    have n8 : IntKind.i64.wrap ((k : Int) + 1) = (k : Int) + 1 := by rw [IntKind.wrap_i64]; omega
    have n9 : (k : Int) + 1 ≤ (kc0 : Int) := by omega
    go_upto_region 13 with (go_at_call 46; (with_reducible refine HI.out.mono ?_); rintro e1 w1 ⟨rfl, hb1⟩; obtain ⟨x0, x1, x2, x3, x4, x5⟩ := cells6 ((hb1.block _ (lt_of_heap HQ.out.2.1)).trans HQ.out.2.1); rw [HN.out.1] at x1; have HB1 := Lib.hid (below_then HBQ.out hb1); have HB0 := Lib.hid (below_then HBW.out hb1); have HS1 := Lib.hid (fun (V : World) (hb' : Below w1.heap.size w1 V) => (show V.cell? ⟨w.heap.size, 0, none⟩ = some (.pointer (some ⟨mb, 0, none⟩)) ∧ V.cell? ⟨b1, 4, none⟩ = some (.slice (some a) x.l.length kc0) from ⟨cell_below hb' (by rw [Lib.cell_of_heap ((hb1.block _ (lt_of_heap HQ.out.2.2)).trans HQ.out.2.2)]; rfl), cell_below hb' (by rw [Lib.cell_of_heap ((hb1.block _ (lt_of_heap HQ.out.1)).trans HQ.out.1)]; rfl)⟩)); clear hb1)
    clear x0 x1 x2 x3 x4 x5
    have HB1G := Lib.hid hb1g
    clear hb1g hb2g hb12
    go_region_held3 (fun V => V.cell? ⟨w.heap.size, 0, none⟩ = some (.pointer (some ⟨mb, 0, none⟩)) ∧ V.cell? ⟨b1, 4, none⟩ = some (.slice (some a) x.l.length kc0))
      (first | with_reducible exact HS2.out | with_reducible exact HS3.out | with_reducible exact HS4.out | with_reducible exact HS1.out _ (by go_grown) | fail)
      (first
      | (go_at_call 47; have hbw := (show Below w1.heap.size w1 ((w1.alloc (.cells #[.slice (some a) k kc0, .slice A3 (x.l.length - (k + 1)) (kc0 - (k + 1))] 47)).drew) from ((Below.refl _ _).alloc (Nat.le_refl _) _).drew); (with_reducible refine (HCC.out _ w1.heap.size (below_then HB1.out hbw) (Rd.drew (Rd.lit w1 #[.slice (some a) k kc0, .slice A3 (x.l.length - (k + 1)) (kc0 - (k + 1))] _ (size := 1) (n := 2) rfl))).mono ?_); rintro e1 w2 ⟨A', c', css', rfl, hv2, hb2⟩; have hb3 := below_then hbw hb2; have HS2 := Lib.hid (HS1.out _ hb3); have HV2 := Lib.hid hv2; have HB2 := Lib.hid hb3; clear hbw hb2 hb3 hv2)
      | (go_at_call 36; (with_reducible refine (HTU.out _ _ _ _ (below_then HB0.out HB2.out) HV2.out).mono ?_); rintro e1 w3 ⟨A9, c9, rfl, hv3, hb3⟩; have hb4 := below_then HB2.out hb3; have HS3 := Lib.hid (HS1.out _ hb4); have HV3 := Lib.hid hv3; have HB3 := Lib.hid (below_then HB0.out hb4); clear hb3 hb4 hv3)
      | (go_at_call 23; (with_reducible refine (HTL.out _ _ _ HB3.out HV3.out).mono ?_); rintro e1 w4 ⟨rfl, hp⟩; have HP := Lib.hid hp; have HS4 := Lib.hid (HKP.out _ _ _ _ _ _ HB3.out (Nat.le_of_lt HB1G.out) HS3.out hp); clear hp)
      | fail)
    all_goals
      go_wp2_with fail
      go_returns
      with_reducible exact ⟨rfl, HP.out.mono (HBM.out _ HB3.out).1 (HBM.out _ HB3.out).2⟩
theorem inTwo_any (h : Rep w0 B mb s w t i r v f0 nx nm rcs vcs fcs) (hv : s.vals.length ≤ 100000000000) (kind : Int) (hk : kind = 9 ∨ kind = 11) (x y : Val) (css : List (List Value)) (ab ao c : Nat) (hl : Vs w0 w (Mv mb t r v f0) [x, y] (some ⟨ab, ao, none⟩) css) (hx : x.l.length ≤ 90000000000) :
    Calls Tryd.prog 38 #[.agg #[.pointer (some ⟨mb, 0, none⟩)], .int .i64 kind, .slice (some ⟨ab, ao, none⟩) 2 c] w fun e1 w' => e1 = .returned (.tuple #[]) ∧ Post w0 B mb (Mv mb t r v f0) w (s.inTup kind x y x) w' := by
  rcases hk with rfl | rfl
  · cases hT : isTup x y 0 with
    | false => exact inSelF h hv x y css ab ao c hl hx hT
    | true => exact inSelT h hv x y css ab ao c hl hx hT
  · cases hT : isTup x y 0 with
    | false => exact inDelF h hv x y css ab ao c hl hx hT
    | true => exact inDelT h hv x y css ab ao c hl hx hT
end
end Go.Proofs.YtpdfjdomjklkbaaDoor

namespace Go.Proofs.YtpdfjdomjklkbaaDoor
open Go.ChangeShapes Go.WideShapes Go.ChangeAt Go.RowKit Go.Sort
set_option linter.unusedVariables false
set_option linter.unusedSimpArgs false

section
variable {w0 w : World} {B mb : Nat} {s : St} {t i r v f0 nx nm : Value} {rcs vcs fcs : List (List Value)}
set_option maxRecDepth 100000 in
set_option maxHeartbeats 16000000 in
theorem inInsF (h : Rep w0 B mb s w t i r v f0 nx nm rcs vcs fcs) (hv : s.vals.length ≤ 100000000000) (x y f : Val) (css : List (List Value)) (ab ao c : Nat) (hl : Vs w0 w (Mv mb t r v f0) [x, y, f] (some ⟨ab, ao, none⟩) css) (hx : f.l.length ≤ 90000000000) (hc : 3 ≤ c ∧ c ≤ maxLen) (hT : isTup f y 1 = false) :
    Calls Tryd.prog 38 #[.agg #[.pointer (some ⟨mb, 0, none⟩)], .int .i64 10, .slice (some ⟨ab, ao, none⟩) 3 c] w fun e1 w' => e1 = .returned (.tuple #[]) ∧ Post w0 B mb (Mv mb t r v f0) w (s.inTup 10 x y f) w' := by
  have hb : Below w.heap.size w (w.alloc (boxM mb)) := (Below.refl _ _).alloc (Nat.le_refl _) _
  obtain ⟨A0, kc0, p0, hz0, g00, g01, g02, g03, g04, g05⟩ := (hl.below hb).six 0 (z := x) rfl (ao) (ao + 1) (ao + 2) (ao + 3) (ao + 4) (ao + 5) ⟨by omega, by omega, by omega, by omega, by omega, by omega⟩
  obtain ⟨A1, kc1, p1, hz1, g10, g11, g12, g13, g14, g15⟩ := (hl.below hb).six 1 (z := y) rfl (ao + 6) (ao + 6 + 1) (ao + 6 + 2) (ao + 6 + 3) (ao + 6 + 4) (ao + 6 + 5) ⟨by omega, by omega, by omega, by omega, by omega, by omega⟩
  obtain ⟨A2, kc2, p2, hz2, g20, g21, g22, g23, g24, g25⟩ := (hl.below hb).six 2 (z := f) rfl (ao + 12) (ao + 12 + 1) (ao + 12 + 2) (ao + 12 + 3) (ao + 12 + 4) (ao + 12 + 5) ⟨by omega, by omega, by omega, by omega, by omega, by omega⟩
  have HSK := Lib.hid (fun (V : World) (hb' : Below (w.alloc (boxM mb)).heap.size (w.alloc (boxM mb)) V) => (show V.cell? ⟨ab, ao, none⟩ = some (.int .i64 x.sort) ∧ V.cell? ⟨ab, ao + 1, none⟩ = some (.int .i64 x.n) ∧ V.cell? ⟨ab, ao + 2, none⟩ = some (.string (bstr x.s)) ∧ V.cell? ⟨ab, ao + 3, none⟩ = some (.slice none 0 0) ∧ V.cell? ⟨ab, ao + 4, none⟩ = some (.slice A0 x.l.length kc0) ∧ V.cell? ⟨ab, ao + 5, none⟩ = some (.pointer p0) ∧ V.cell? ⟨ab, ao + 6, none⟩ = some (.int .i64 y.sort) ∧ V.cell? ⟨ab, ao + 6 + 1, none⟩ = some (.int .i64 y.n) ∧ V.cell? ⟨ab, ao + 6 + 2, none⟩ = some (.string (bstr y.s)) ∧ V.cell? ⟨ab, ao + 6 + 3, none⟩ = some (.slice none 0 0) ∧ V.cell? ⟨ab, ao + 6 + 4, none⟩ = some (.slice A1 y.l.length kc1) ∧ V.cell? ⟨ab, ao + 6 + 5, none⟩ = some (.pointer p1) from ⟨cell_below hb' g00, cell_below hb' g01, cell_below hb' g02, cell_below hb' g03, cell_below hb' g04, cell_below hb' g05, cell_below hb' g10, cell_below hb' g11, cell_below hb' g12, cell_below hb' g13, cell_below hb' g14, cell_below hb' g15⟩))
  have HS3 := Lib.hid (fun (V : World) (hb' : Below (w.alloc (boxM mb)).heap.size (w.alloc (boxM mb)) V) => (show V.cell? ⟨ab, ao + 12, none⟩ = some (.int .i64 f.sort) ∧ V.cell? ⟨ab, ao + 12 + 1, none⟩ = some (.int .i64 f.n) ∧ V.cell? ⟨ab, ao + 12 + 2, none⟩ = some (.string (bstr f.s)) ∧ V.cell? ⟨ab, ao + 12 + 3, none⟩ = some (.slice none 0 0) ∧ V.cell? ⟨ab, ao + 12 + 4, none⟩ = some (.slice A2 f.l.length kc2) ∧ V.cell? ⟨ab, ao + 12 + 5, none⟩ = some (.pointer p2) from ⟨cell_below hb' g20, cell_below hb' g21, cell_below hb' g22, cell_below hb' g23, cell_below hb' g24, cell_below hb' g25⟩))
  clear g00 g01 g02 g03 g04 g05 g10 g11 g12 g13 g14 g15 g20 g21 g22 g23 g24 g25
  have HX0 := Lib.hid (heap_new (w := w) (o := boxM mb) rfl)
  have HZ0 := Lib.hid hz0
  have HZ1 := Lib.hid hz1
  have HZ2 := Lib.hid hz2
  have HCP := Lib.hid hc
  clear hc
  have HB := Lib.hid hb
  have HH := Lib.hid h
  have HV := Lib.hid hv
  have HXL := Lib.hid hx
  have HT1 := Lib.hid (two_new (w.alloc (boxM mb)) (w.heap.size + 1) (World.size_alloc _ _) (boxV x A0 kc0 p0) (boxV y A1 kc1 p1))
  have HT2 := Lib.hid (two_new (w.alloc (boxM mb)) (w.heap.size + 1) (World.size_alloc _ _) (boxV y A1 kc1 p1) (boxV x A0 kc0 p0))
  have HBM := Lib.hid (fun (wr : World) (hb : Below w.heap.size w wr) => And.intro (Tr.below (P := Mv mb t r v f0) hb) (hb.mono (Nat.le_of_lt (Nat.lt_of_le_of_lt h.base.2 h.lt))))
  have HS := Lib.hid (fun (wr : World) (hb : Below w.heap.size w wr) => stuck_any (h.below hb))
  have HE : s.inTup 10 x y f = { s with err := 11 } := by unfold St.inTup; rw [show (if (10 : Int) = 10 then (1 : Int) else 0) = 1 from rfl, hT, if_neg (by decide)]
  rw [HE]
  clear HE h hb hl hv hx hz0 hz1 hz2
  go_enter Tryd.func38, Tryd.ntmps38
  go_upto_region 1 with fail
  go_cut [6, 7, 8] (fun u6 u7 u8 wx => ∃ b1 b2 : Nat, u6 = .pointer (some ⟨b1, 0, none⟩) ∧ u7 = .pointer (some ⟨b2, 0, none⟩) ∧ u8 = .int .i64 0 ∧ w.heap.size < b1 ∧ w.heap.size < b2 ∧ b1 ≠ b2 ∧ wx.heap[b1]? = some (boxV x A0 kc0 p0) ∧ wx.heap[b2]? = some (boxV y A1 kc1 p1) ∧ Below (w.alloc (boxM mb)).heap.size (w.alloc (boxM mb)) wx)
  case first =>
    go_region_held3 (fun V => V.cell? ⟨ab, ao, none⟩ = some (.int .i64 x.sort) ∧ V.cell? ⟨ab, ao + 1, none⟩ = some (.int .i64 x.n) ∧ V.cell? ⟨ab, ao + 2, none⟩ = some (.string (bstr x.s)) ∧ V.cell? ⟨ab, ao + 3, none⟩ = some (.slice none 0 0) ∧ V.cell? ⟨ab, ao + 4, none⟩ = some (.slice A0 x.l.length kc0) ∧ V.cell? ⟨ab, ao + 5, none⟩ = some (.pointer p0) ∧ V.cell? ⟨ab, ao + 6, none⟩ = some (.int .i64 y.sort) ∧ V.cell? ⟨ab, ao + 6 + 1, none⟩ = some (.int .i64 y.n) ∧ V.cell? ⟨ab, ao + 6 + 2, none⟩ = some (.string (bstr y.s)) ∧ V.cell? ⟨ab, ao + 6 + 3, none⟩ = some (.slice none 0 0) ∧ V.cell? ⟨ab, ao + 6 + 4, none⟩ = some (.slice A1 y.l.length kc1) ∧ V.cell? ⟨ab, ao + 6 + 5, none⟩ = some (.pointer p1))
      (with_reducible exact HSK.out _ (by go_grown))
      (first | fail)
    all_goals
      clear HSK HS3
      go_wp2_with fail
      go_meet
      first
        | exact ⟨w.heap.size + 1, w.heap.size + 2, rfl, rfl, rfl, by omega, by omega, by omega, HT1.out⟩
        | exact ⟨w.heap.size + 2, w.heap.size + 1, rfl, rfl, rfl, by omega, by omega, by omega, HT2.out.2.1, HT2.out.1, HT2.out.2.2⟩
  case rest =>
    obtain ⟨b1, b2, rfl, rfl, rfl, hb1g, hb2g, hb12, hq1, hq2, hbq⟩ := hcut
    clear HT1 HT2 HSK
    obtain ⟨m0, m1, m2, m3, m4, m5⟩ := HS3.out _ hbq
    clear HS3
    have zz := frozenN hq1
    have z0 := zz 0; have z1 := zz 1; have z2 := zz 2; have z3 := zz 3; have z4 := zz 4; have z5 := zz 5
    clear zz
    obtain ⟨y0, y1, y2, y3, y4, y5⟩ := cells6 hq1
    obtain ⟨hw6, hb6, ho6⟩ := own_block6 hq1 (.int .i64 f.sort) (.int .i64 f.n) (.string (bstr f.s)) (.slice none 0 0) (.slice A2 f.l.length kc2) (.pointer p2) hbq (by rw [World.size_alloc]; omega)
    have hq26 := (ho6 b2 (by omega)).trans hq2
    have HP6 := Lib.hid (And.intro hw6 (And.intro hq26 hb6))
    clear hq1 hq2 hbq hw6 hq26 hb6 ho6
    go_upto_region 4 with fail
    have hq1 := HP6.out.1
    have hq2 := HP6.out.2.1
    have hbq := HP6.out.2.2
    clear m0 m1 m2 m3 m4 m5 y0 y1 y2 y3 y4 y5 z0 z1 z2 z3 z4 z5 HP6
    generalize (((((wc.setCell ⟨b1, 0, none⟩ (.int .i64 f.sort)).setCell ⟨b1, 1, none⟩ (.int .i64 f.n)).setCell ⟨b1, 2, none⟩ (.string (bstr f.s))).setCell ⟨b1, 3, none⟩ (.slice none 0 0)).setCell ⟨b1, 4, none⟩ (.slice A2 f.l.length kc2)).setCell ⟨b1, 5, none⟩ (.pointer p2) = wd at *
    have HBW := Lib.hid (below_then HB.out hbq)
    have hc0 : wd.heap[w.heap.size]? = some (boxM mb) := (hbq.block _ (lt_of_heap HX0.out)).trans HX0.out
    have HQ := Lib.hid (And.intro hq1 (And.intro hq2 hc0))
    have HI := Lib.hid (isTuple_any wd b1 b2 f y 1 A2 A1 kc2 kc1 p2 p1 hq1 hq2 ⟨by decide, by decide⟩ (Nat.le_trans HXL.out (by decide)))
    rw [hT] at HI
    clear hq1 hq2 hbq hc0
    go_wp2_with (first
      | (go_at_call 46; (with_reducible refine HI.out.mono ?_); rintro e1 w1 ⟨rfl, hb1⟩; have c0 : w1.cell? ⟨w.heap.size, 0, none⟩ = some (.pointer (some ⟨mb, 0, none⟩)) := (by rw [Lib.cell_of_heap ((hb1.block _ (lt_of_heap HQ.out.2.2)).trans HQ.out.2.2)]; rfl); have HB1 := Lib.hid (below_then HBW.out hb1); clear hb1)
      | (go_at_call 22; (with_reducible refine (HS.out _ HB1.out).mono ?_); rintro e1 w2 ⟨rfl, hp⟩; have HP := Lib.hid hp; clear hp))
    go_returns
    with_reducible exact ⟨rfl, HP.out.mono (HBM.out _ HB1.out).1 (HBM.out _ HB1.out).2⟩
set_option maxRecDepth 100000 in
set_option maxHeartbeats 16000000 in
theorem inInsT (h : Rep w0 B mb s w t i r v f0 nx nm rcs vcs fcs) (hv : s.vals.length ≤ 100000000000) (x y f : Val) (css : List (List Value)) (ab ao c : Nat) (hl : Vs w0 w (Mv mb t r v f0) [x, y, f] (some ⟨ab, ao, none⟩) css) (hx : f.l.length ≤ 90000000000) (hc : 3 ≤ c ∧ c ≤ maxLen) (hT : isTup f y 1 = true) (hne : 0 < f.l.length) :
    Calls Tryd.prog 38 #[.agg #[.pointer (some ⟨mb, 0, none⟩)], .int .i64 10, .slice (some ⟨ab, ao, none⟩) 3 c] w fun e1 w' => e1 = .returned (.tuple #[]) ∧ Post w0 B mb (Mv mb t r v f0) w (s.inTup 10 x y f) w' := by
  have hb : Below w.heap.size w (w.alloc (boxM mb)) := (Below.refl _ _).alloc (Nat.le_refl _) _
  obtain ⟨A0, kc0, p0, hz0, g00, g01, g02, g03, g04, g05⟩ := (hl.below hb).six 0 (z := x) rfl (ao) (ao + 1) (ao + 2) (ao + 3) (ao + 4) (ao + 5) ⟨by omega, by omega, by omega, by omega, by omega, by omega⟩
  obtain ⟨A1, kc1, p1, hz1, g10, g11, g12, g13, g14, g15⟩ := (hl.below hb).six 1 (z := y) rfl (ao + 6) (ao + 6 + 1) (ao + 6 + 2) (ao + 6 + 3) (ao + 6 + 4) (ao + 6 + 5) ⟨by omega, by omega, by omega, by omega, by omega, by omega⟩
  obtain ⟨A2, kc2, p2, hz2, g20, g21, g22, g23, g24, g25⟩ := (hl.below hb).six 2 (z := f) rfl (ao + 12) (ao + 12 + 1) (ao + 12 + 2) (ao + 12 + 3) (ao + 12 + 4) (ao + 12 + 5) ⟨by omega, by omega, by omega, by omega, by omega, by omega⟩
  have HSK := Lib.hid (fun (V : World) (hb' : Below (w.alloc (boxM mb)).heap.size (w.alloc (boxM mb)) V) => (show V.cell? ⟨ab, ao, none⟩ = some (.int .i64 x.sort) ∧ V.cell? ⟨ab, ao + 1, none⟩ = some (.int .i64 x.n) ∧ V.cell? ⟨ab, ao + 2, none⟩ = some (.string (bstr x.s)) ∧ V.cell? ⟨ab, ao + 3, none⟩ = some (.slice none 0 0) ∧ V.cell? ⟨ab, ao + 4, none⟩ = some (.slice A0 x.l.length kc0) ∧ V.cell? ⟨ab, ao + 5, none⟩ = some (.pointer p0) ∧ V.cell? ⟨ab, ao + 6, none⟩ = some (.int .i64 y.sort) ∧ V.cell? ⟨ab, ao + 6 + 1, none⟩ = some (.int .i64 y.n) ∧ V.cell? ⟨ab, ao + 6 + 2, none⟩ = some (.string (bstr y.s)) ∧ V.cell? ⟨ab, ao + 6 + 3, none⟩ = some (.slice none 0 0) ∧ V.cell? ⟨ab, ao + 6 + 4, none⟩ = some (.slice A1 y.l.length kc1) ∧ V.cell? ⟨ab, ao + 6 + 5, none⟩ = some (.pointer p1) from ⟨cell_below hb' g00, cell_below hb' g01, cell_below hb' g02, cell_below hb' g03, cell_below hb' g04, cell_below hb' g05, cell_below hb' g10, cell_below hb' g11, cell_below hb' g12, cell_below hb' g13, cell_below hb' g14, cell_below hb' g15⟩))
  have HS3 := Lib.hid (fun (V : World) (hb' : Below (w.alloc (boxM mb)).heap.size (w.alloc (boxM mb)) V) => (show V.cell? ⟨ab, ao + 12, none⟩ = some (.int .i64 f.sort) ∧ V.cell? ⟨ab, ao + 12 + 1, none⟩ = some (.int .i64 f.n) ∧ V.cell? ⟨ab, ao + 12 + 2, none⟩ = some (.string (bstr f.s)) ∧ V.cell? ⟨ab, ao + 12 + 3, none⟩ = some (.slice none 0 0) ∧ V.cell? ⟨ab, ao + 12 + 4, none⟩ = some (.slice A2 f.l.length kc2) ∧ V.cell? ⟨ab, ao + 12 + 5, none⟩ = some (.pointer p2) from ⟨cell_below hb' g20, cell_below hb' g21, cell_below hb' g22, cell_below hb' g23, cell_below hb' g24, cell_below hb' g25⟩))
  clear g00 g01 g02 g03 g04 g05 g10 g11 g12 g13 g14 g15 g20 g21 g22 g23 g24 g25
  have HX0 := Lib.hid (heap_new (w := w) (o := boxM mb) rfl)
  have HZ0 := Lib.hid hz0
  have HZ1 := Lib.hid hz1
  have HZ2 := Lib.hid hz2
  have HCP := Lib.hid hc
  clear hc
  have HB := Lib.hid hb
  have HH := Lib.hid h
  have HV := Lib.hid hv
  have HXL := Lib.hid hx
  have HT1 := Lib.hid (two_new (w.alloc (boxM mb)) (w.heap.size + 1) (World.size_alloc _ _) (boxV x A0 kc0 p0) (boxV y A1 kc1 p1))
  have HT2 := Lib.hid (two_new (w.alloc (boxM mb)) (w.heap.size + 1) (World.size_alloc _ _) (boxV y A1 kc1 p1) (boxV x A0 kc0 p0))
  have HBM := Lib.hid (fun (wr : World) (hb : Below w.heap.size w wr) => And.intro (Tr.below (P := Mv mb t r v f0) hb) (hb.mono (Nat.le_of_lt (Nat.lt_of_le_of_lt h.base.2 h.lt))))
  obtain ⟨ht4, ht1, k, hyn, hk⟩ := isTup_iff hT
  have hk' : k ≤ f.l.length := by omega
  obtain ⟨csx, hvx, hcx, hpx⟩ := hz2.vs
  obtain ⟨a, rfl⟩ : ∃ a, A2 = some a := by
    obtain ⟨fb, fo, e⟩ := hvx.addr (by omega)
    exact ⟨_, e⟩
  have hkl : k ≤ f.l.length := by omega
  have hd3 := hvx.dropC k (by omega) kc2 (by omega)
  obtain ⟨A3, hA3⟩ : ∃ A3, (if kc2 = k then some a else some (a.add (k * 6))) = A3 := ⟨_, rfl⟩
  rw [hA3] at hd3
  have HE : s.inTup 10 x y f = { s with vals := s.vals ++ [.mk 4 0 [] (tupOf 10 x f k) none] } := by unfold St.inTup; rw [show (if (10 : Int) = 10 then (1 : Int) else 0) = 1 from rfl, hT, if_pos rfl, if_neg (by decide), hyn, Int.toNat_natCast]
  rw [HE]
  have hrl : (([⟨some a, f.l.take k, kc2, csx.take k⟩, ⟨some ⟨ab, ao, none⟩, [x], c, css.take 1⟩, ⟨A3, f.l.drop k, kc2 - k, csx.drop k⟩] : List Rw).flatMap Rw.l) = tupOf 10 x f k := by simp [tupOf]
  obtain ⟨L, hL⟩ : ∃ L, tupOf 10 x f k = L := ⟨_, rfl⟩
  rw [hL] at hrl ⊢
  have hLl : L.length ≤ 100000000000 := by rw [← hrl]; simp; omega
  have hrows : ∀ q ∈ ([⟨some a, f.l.take k, kc2, csx.take k⟩, ⟨some ⟨ab, ao, none⟩, [x], c, css.take 1⟩, ⟨A3, f.l.drop k, kc2 - k, csx.drop k⟩] : List Rw), Vs w0 (w.alloc (boxM mb)) (Mv mb t r v f0) q.l q.A q.css := by
    intro q hr
    simp only [List.mem_cons, List.not_mem_nil, or_false] at hr
    rcases hr with rfl | rfl | rfl
    · exact hvx.take k hkl
    · exact hl.one hb
    · exact hd3
  have HCC := Lib.hid (fun (wr : World) (g : Nat) (hb' : Below (w.alloc (boxM mb)).heap.size (w.alloc (boxM mb)) wr) (hR : Rd wr 1 (some ⟨g, 0, none⟩) 3 [.slice (some a) k kc2, .slice (some ⟨ab, ao, none⟩) 1 c, .slice A3 (f.l.length - k) (kc2 - k)]) => (show Calls Tryd.prog 47 #[.slice (some ⟨g, 0, none⟩) 3 3] wr fun e w' => ∃ A' c' css', e = .returned (.slice A' L.length c') ∧ Vs w0 w' (Mv mb t r v f0) L A' css' ∧ Below wr.heap.size wr w' from
    (vconcat_any w0 wr (Mv mb t r v f0) [⟨some a, f.l.take k, kc2, csx.take k⟩, ⟨some ⟨ab, ao, none⟩, [x], c, css.take 1⟩, ⟨A3, f.l.drop k, kc2 - k, csx.drop k⟩] (some ⟨g, 0, none⟩) 3 (by simpa [Rw.cell, hkl] using hR) (fun q hr => (hrows q hr).below hb') (by rw [hrl]; omega) (by simp)).mono fun e w' ⟨A', c', h1, h2, h3⟩ => ⟨A', c', _, by rw [← hrl]; exact h1, by rw [← hrl]; exact h2, h3⟩))
  have HTU := Lib.hid (fun (wr : World) (A' : Option Addr) (c' : Nat) (css' : List (List Value)) (hb' : Below w.heap.size w wr) (hV : Vs w0 wr (Mv mb t r v f0) L A' css') => tuple_any w0 wr (Mv mb t r v f0) (fun b hbb => h.mvNew b (Nat.le_trans hb'.size hbb)) A' L css' c' hV hLl)
  have HTL := Lib.hid (fun (wr : World) (A' : Option Addr) (c' : Nat) (hb' : Below w.heap.size w wr) (hz : VR w0 wr (Mv mb t r v f0) (.mk 4 0 [] L none) [.int .i64 4, .int .i64 0, .string (bstr []), .slice none 0 0, .slice A' L.length c', .pointer none]) => (show Calls Tryd.prog 23 #[.pointer (some ⟨mb, 0, none⟩), .agg #[.int .i64 4, .int .i64 0, .string ⟨#[]⟩, .slice none 0 0, .slice A' L.length c', .pointer none]] wr fun e w' => e = .returned (.tuple #[]) ∧ Post w0 B mb (Mv mb t r v f0) wr { s with vals := s.vals ++ [.mk 4 0 [] L none] } w' from tell_any (h.below hb') hv (.mk 4 0 [] L none) (A := A') (c := c') (p := none) hz))
  have HN := Lib.hid (And.intro hyn (And.intro hk' (And.intro hx hcx)))
  have HKP := Lib.hid (fun (wr w3 : World) (s' : St) (b : Nat) (u0 u2 : Value) (hb' : Below w.heap.size w wr) (hbl : w.heap.size ≤ b) (hS : wr.cell? ⟨w.heap.size, 0, none⟩ = some u0 ∧ wr.cell? ⟨b, 4, none⟩ = some u2) (hp : Post w0 B mb (Mv mb t r v f0) wr s' w3) => keep2 h hbl hS hp)
  clear HE h hb hl hv hx hz0 hz1 hz2 hne hkl hrl hL hLl hrows hvx hd3 hk hk' hyn ht4 ht1 hcx hpx
  go_enter Tryd.func38, Tryd.ntmps38
  go_upto_region 1 with fail
  go_cut [6, 7, 8] (fun u6 u7 u8 wx => ∃ b1 b2 : Nat, u6 = .pointer (some ⟨b1, 0, none⟩) ∧ u7 = .pointer (some ⟨b2, 0, none⟩) ∧ u8 = .int .i64 0 ∧ w.heap.size < b1 ∧ w.heap.size < b2 ∧ b1 ≠ b2 ∧ wx.heap[b1]? = some (boxV x A0 kc0 p0) ∧ wx.heap[b2]? = some (boxV y A1 kc1 p1) ∧ Below (w.alloc (boxM mb)).heap.size (w.alloc (boxM mb)) wx)
  case first =>
    go_region_held3 (fun V => V.cell? ⟨ab, ao, none⟩ = some (.int .i64 x.sort) ∧ V.cell? ⟨ab, ao + 1, none⟩ = some (.int .i64 x.n) ∧ V.cell? ⟨ab, ao + 2, none⟩ = some (.string (bstr x.s)) ∧ V.cell? ⟨ab, ao + 3, none⟩ = some (.slice none 0 0) ∧ V.cell? ⟨ab, ao + 4, none⟩ = some (.slice A0 x.l.length kc0) ∧ V.cell? ⟨ab, ao + 5, none⟩ = some (.pointer p0) ∧ V.cell? ⟨ab, ao + 6, none⟩ = some (.int .i64 y.sort) ∧ V.cell? ⟨ab, ao + 6 + 1, none⟩ = some (.int .i64 y.n) ∧ V.cell? ⟨ab, ao + 6 + 2, none⟩ = some (.string (bstr y.s)) ∧ V.cell? ⟨ab, ao + 6 + 3, none⟩ = some (.slice none 0 0) ∧ V.cell? ⟨ab, ao + 6 + 4, none⟩ = some (.slice A1 y.l.length kc1) ∧ V.cell? ⟨ab, ao + 6 + 5, none⟩ = some (.pointer p1))
      (with_reducible exact HSK.out _ (by go_grown))
      (first | fail)
    all_goals
      clear HSK HS3
      go_wp2_with fail
      go_meet
      first
        | exact ⟨w.heap.size + 1, w.heap.size + 2, rfl, rfl, rfl, by omega, by omega, by omega, HT1.out⟩
        | exact ⟨w.heap.size + 2, w.heap.size + 1, rfl, rfl, rfl, by omega, by omega, by omega, HT2.out.2.1, HT2.out.1, HT2.out.2.2⟩
  case rest =>
    obtain ⟨b1, b2, rfl, rfl, rfl, hb1g, hb2g, hb12, hq1, hq2, hbq⟩ := hcut
    clear HT1 HT2 HSK
    obtain ⟨m0, m1, m2, m3, m4, m5⟩ := HS3.out _ hbq
    clear HS3
    have zz := frozenN hq1
    have z0 := zz 0; have z1 := zz 1; have z2 := zz 2; have z3 := zz 3; have z4 := zz 4; have z5 := zz 5
    clear zz
    obtain ⟨y0, y1, y2, y3, y4, y5⟩ := cells6 hq1
    obtain ⟨hw6, hb6, ho6⟩ := own_block6 hq1 (.int .i64 f.sort) (.int .i64 f.n) (.string (bstr f.s)) (.slice none 0 0) (.slice (some a) f.l.length kc2) (.pointer p2) hbq (by rw [World.size_alloc]; omega)
    have hq26 := (ho6 b2 (by omega)).trans hq2
    have HP6 := Lib.hid (And.intro hw6 (And.intro hq26 hb6))
    clear hq1 hq2 hbq hw6 hq26 hb6 ho6
    go_upto_region 4 with fail
    have hq1 := HP6.out.1
    have hq2 := HP6.out.2.1
    have hbq := HP6.out.2.2
    clear m0 m1 m2 m3 m4 m5 y0 y1 y2 y3 y4 y5 z0 z1 z2 z3 z4 z5 HP6
    generalize (((((wc.setCell ⟨b1, 0, none⟩ (.int .i64 f.sort)).setCell ⟨b1, 1, none⟩ (.int .i64 f.n)).setCell ⟨b1, 2, none⟩ (.string (bstr f.s))).setCell ⟨b1, 3, none⟩ (.slice none 0 0)).setCell ⟨b1, 4, none⟩ (.slice (some a) f.l.length kc2)).setCell ⟨b1, 5, none⟩ (.pointer p2) = wd at *
    have HBW := Lib.hid (below_then HB.out hbq)
    have hc0 : wd.heap[w.heap.size]? = some (boxM mb) := (hbq.block _ (lt_of_heap HX0.out)).trans HX0.out
    have HQ := Lib.hid (And.intro hq1 (And.intro hq2 hc0))
    have HI := Lib.hid (isTuple_any wd b1 b2 f y 1 (some a) A1 kc2 kc1 p2 p1 hq1 hq2 ⟨by decide, by decide⟩ (Nat.le_trans HXL.out (by decide)))
    rw [hT] at HI
    have HBQ := Lib.hid hbq
    clear hq1 hq2 hbq hc0
    have n0 : (0 : Int) ≤ (k : Int) := by omega
    have n10 : (1 : Int) ≤ (c : Int) := by have := HCP.out; omega
    have n1 : (k : Int) ≤ (f.l.length : Int) := by have := HN.out.2.1; omega
    have n2 : (f.l.length : Int) ≤ 100000000000 := by have := HN.out.2.2.1; omega
    have n3 : (f.l.length : Int) ≤ (kc2 : Int) := by have := HN.out.2.2.2.1; omega
    have n4 : (k : Int) ≤ (kc2 : Int) := by omega
    have n7 : (kc2 : Int) ≤ 9223372036854775807 := by have := HN.out.2.2.2.2; simp only [maxLen] at this; omega
    go_upto_region 15 with (go_at_call 46; (with_reducible refine HI.out.mono ?_); rintro e1 w1 ⟨rfl, hb1⟩; obtain ⟨x0, x1, x2, x3, x4, x5⟩ := cells6 ((hb1.block _ (lt_of_heap HQ.out.2.1)).trans HQ.out.2.1); rw [HN.out.1] at x1; have HB1 := Lib.hid (below_then HBQ.out hb1); have HB0 := Lib.hid (below_then HBW.out hb1); have HS1 := Lib.hid (fun (V : World) (hb' : Below w1.heap.size w1 V) => (show V.cell? ⟨w.heap.size, 0, none⟩ = some (.pointer (some ⟨mb, 0, none⟩)) ∧ V.cell? ⟨b1, 4, none⟩ = some (.slice (some a) f.l.length kc2) from ⟨cell_below hb' (by rw [Lib.cell_of_heap ((hb1.block _ (lt_of_heap HQ.out.2.2)).trans HQ.out.2.2)]; rfl), cell_below hb' (by rw [Lib.cell_of_heap ((hb1.block _ (lt_of_heap HQ.out.1)).trans HQ.out.1)]; rfl)⟩)); clear hb1)
    clear x0 x1 x2 x3 x4 x5
    have HB1G := Lib.hid hb1g
    clear hb1g hb2g hb12
    go_region_held3 (fun V => V.cell? ⟨w.heap.size, 0, none⟩ = some (.pointer (some ⟨mb, 0, none⟩)) ∧ V.cell? ⟨b1, 4, none⟩ = some (.slice (some a) f.l.length kc2))
      (first | with_reducible exact HS2.out | with_reducible exact HS3.out | with_reducible exact HS4.out | with_reducible exact HS1.out _ (by go_grown) | fail)
      (first
      | (go_at_call 47; have hbw := (show Below w1.heap.size w1 ((w1.alloc (.cells #[.slice (some a) k kc2, .slice (some ⟨ab, ao, none⟩) 1 c, .slice A3 (f.l.length - k) (kc2 - k)] 47)).drew) from ((Below.refl _ _).alloc (Nat.le_refl _) _).drew); (with_reducible refine (HCC.out _ w1.heap.size (below_then HB1.out hbw) (Rd.drew (Rd.lit w1 #[.slice (some a) k kc2, .slice (some ⟨ab, ao, none⟩) 1 c, .slice A3 (f.l.length - k) (kc2 - k)] _ (size := 1) (n := 3) rfl))).mono ?_); rintro e1 w2 ⟨A', c', css', rfl, hv2, hb2⟩; have hb3 := below_then hbw hb2; have HS2 := Lib.hid (HS1.out _ hb3); have HV2 := Lib.hid hv2; have HB2 := Lib.hid hb3; clear hbw hb2 hb3 hv2)
      | (go_at_call 36; (with_reducible refine (HTU.out _ _ _ _ (below_then HB0.out HB2.out) HV2.out).mono ?_); rintro e1 w3 ⟨A9, c9, rfl, hv3, hb3⟩; have hb4 := below_then HB2.out hb3; have HS3 := Lib.hid (HS1.out _ hb4); have HV3 := Lib.hid hv3; have HB3 := Lib.hid (below_then HB0.out hb4); clear hb3 hb4 hv3)
      | (go_at_call 23; (with_reducible refine (HTL.out _ _ _ HB3.out HV3.out).mono ?_); rintro e1 w4 ⟨rfl, hp⟩; have HP := Lib.hid hp; have HS4 := Lib.hid (HKP.out _ _ _ _ _ _ HB3.out (Nat.le_of_lt HB1G.out) HS3.out hp); clear hp)
      | fail)
    all_goals
      go_wp2_with fail
      go_returns
      with_reducible exact ⟨rfl, HP.out.mono (HBM.out _ HB3.out).1 (HBM.out _ HB3.out).2⟩
set_option maxRecDepth 100000 in
set_option maxHeartbeats 16000000 in
theorem inInsN (h : Rep w0 B mb s w t i r v f0 nx nm rcs vcs fcs) (hv : s.vals.length ≤ 100000000000) (x y f : Val) (css : List (List Value)) (ab ao c : Nat) (hl : Vs w0 w (Mv mb t r v f0) [x, y, f] (some ⟨ab, ao, none⟩) css) (hx : f.l.length ≤ 90000000000) (hc : 3 ≤ c ∧ c ≤ maxLen) (hT : isTup f y 1 = true) (hf0 : f.l.length = 0) :
    Calls Tryd.prog 38 #[.agg #[.pointer (some ⟨mb, 0, none⟩)], .int .i64 10, .slice (some ⟨ab, ao, none⟩) 3 c] w fun e1 w' => e1 = .returned (.tuple #[]) ∧ Post w0 B mb (Mv mb t r v f0) w (s.inTup 10 x y f) w' := by
  have hb : Below w.heap.size w (w.alloc (boxM mb)) := (Below.refl _ _).alloc (Nat.le_refl _) _
  obtain ⟨A0, kc0, p0, hz0, g00, g01, g02, g03, g04, g05⟩ := (hl.below hb).six 0 (z := x) rfl (ao) (ao + 1) (ao + 2) (ao + 3) (ao + 4) (ao + 5) ⟨by omega, by omega, by omega, by omega, by omega, by omega⟩
  obtain ⟨A1, kc1, p1, hz1, g10, g11, g12, g13, g14, g15⟩ := (hl.below hb).six 1 (z := y) rfl (ao + 6) (ao + 6 + 1) (ao + 6 + 2) (ao + 6 + 3) (ao + 6 + 4) (ao + 6 + 5) ⟨by omega, by omega, by omega, by omega, by omega, by omega⟩
  obtain ⟨A2, kc2, p2, hz2, g20, g21, g22, g23, g24, g25⟩ := (hl.below hb).six 2 (z := f) rfl (ao + 12) (ao + 12 + 1) (ao + 12 + 2) (ao + 12 + 3) (ao + 12 + 4) (ao + 12 + 5) ⟨by omega, by omega, by omega, by omega, by omega, by omega⟩
  have HSK := Lib.hid (fun (V : World) (hb' : Below (w.alloc (boxM mb)).heap.size (w.alloc (boxM mb)) V) => (show V.cell? ⟨ab, ao, none⟩ = some (.int .i64 x.sort) ∧ V.cell? ⟨ab, ao + 1, none⟩ = some (.int .i64 x.n) ∧ V.cell? ⟨ab, ao + 2, none⟩ = some (.string (bstr x.s)) ∧ V.cell? ⟨ab, ao + 3, none⟩ = some (.slice none 0 0) ∧ V.cell? ⟨ab, ao + 4, none⟩ = some (.slice A0 x.l.length kc0) ∧ V.cell? ⟨ab, ao + 5, none⟩ = some (.pointer p0) ∧ V.cell? ⟨ab, ao + 6, none⟩ = some (.int .i64 y.sort) ∧ V.cell? ⟨ab, ao + 6 + 1, none⟩ = some (.int .i64 y.n) ∧ V.cell? ⟨ab, ao + 6 + 2, none⟩ = some (.string (bstr y.s)) ∧ V.cell? ⟨ab, ao + 6 + 3, none⟩ = some (.slice none 0 0) ∧ V.cell? ⟨ab, ao + 6 + 4, none⟩ = some (.slice A1 y.l.length kc1) ∧ V.cell? ⟨ab, ao + 6 + 5, none⟩ = some (.pointer p1) from ⟨cell_below hb' g00, cell_below hb' g01, cell_below hb' g02, cell_below hb' g03, cell_below hb' g04, cell_below hb' g05, cell_below hb' g10, cell_below hb' g11, cell_below hb' g12, cell_below hb' g13, cell_below hb' g14, cell_below hb' g15⟩))
  have HS3 := Lib.hid (fun (V : World) (hb' : Below (w.alloc (boxM mb)).heap.size (w.alloc (boxM mb)) V) => (show V.cell? ⟨ab, ao + 12, none⟩ = some (.int .i64 f.sort) ∧ V.cell? ⟨ab, ao + 12 + 1, none⟩ = some (.int .i64 f.n) ∧ V.cell? ⟨ab, ao + 12 + 2, none⟩ = some (.string (bstr f.s)) ∧ V.cell? ⟨ab, ao + 12 + 3, none⟩ = some (.slice none 0 0) ∧ V.cell? ⟨ab, ao + 12 + 4, none⟩ = some (.slice A2 f.l.length kc2) ∧ V.cell? ⟨ab, ao + 12 + 5, none⟩ = some (.pointer p2) from ⟨cell_below hb' g20, cell_below hb' g21, cell_below hb' g22, cell_below hb' g23, cell_below hb' g24, cell_below hb' g25⟩))
  clear g00 g01 g02 g03 g04 g05 g10 g11 g12 g13 g14 g15 g20 g21 g22 g23 g24 g25
  have HX0 := Lib.hid (heap_new (w := w) (o := boxM mb) rfl)
  have HZ0 := Lib.hid hz0
  have HZ1 := Lib.hid hz1
  have HZ2 := Lib.hid hz2
  have HCP := Lib.hid hc
  clear hc
  have HB := Lib.hid hb
  have HH := Lib.hid h
  have HV := Lib.hid hv
  have HXL := Lib.hid hx
  have HT1 := Lib.hid (two_new (w.alloc (boxM mb)) (w.heap.size + 1) (World.size_alloc _ _) (boxV x A0 kc0 p0) (boxV y A1 kc1 p1))
  have HT2 := Lib.hid (two_new (w.alloc (boxM mb)) (w.heap.size + 1) (World.size_alloc _ _) (boxV y A1 kc1 p1) (boxV x A0 kc0 p0))
  have HBM := Lib.hid (fun (wr : World) (hb : Below w.heap.size w wr) => And.intro (Tr.below (P := Mv mb t r v f0) hb) (hb.mono (Nat.le_of_lt (Nat.lt_of_le_of_lt h.base.2 h.lt))))
  cases A2 with
  | none =>
    obtain ⟨ht4, ht1, k, hyn, hk⟩ := isTup_iff hT
    have hk' : k ≤ f.l.length := by omega
    obtain ⟨csx, hvx, hcx, hpx⟩ := hz2.vs
    obtain rfl : k = 0 := by omega
    replace hyn : y.n = 0 := by omega
    have hfl : f.l = [] := List.eq_nil_of_length_eq_zero hf0
    have hkl : 0 ≤ f.l.length := by omega
    have HE : s.inTup 10 x y f = { s with vals := s.vals ++ [.mk 4 0 [] (tupOf 10 x f 0) none] } := by unfold St.inTup; rw [show (if (10 : Int) = 10 then (1 : Int) else 0) = 1 from rfl, hT, if_pos rfl, if_neg (by decide), hyn, Int.toNat_zero]
    rw [HE]
    have hrl : (([⟨none, [], kc2, []⟩, ⟨some ⟨ab, ao, none⟩, [x], c, css.take 1⟩, ⟨none, [], kc2, []⟩] : List Rw).flatMap Rw.l) = tupOf 10 x f 0 := by simp [tupOf, hfl]
    obtain ⟨L, hL⟩ : ∃ L, tupOf 10 x f 0 = L := ⟨_, rfl⟩
    rw [hL] at hrl ⊢
    have hLl : L.length ≤ 100000000000 := by rw [← hrl]; simp
    have hrows : ∀ q ∈ ([⟨none, [], kc2, []⟩, ⟨some ⟨ab, ao, none⟩, [x], c, css.take 1⟩, ⟨none, [], kc2, []⟩] : List Rw), Vs w0 (w.alloc (boxM mb)) (Mv mb t r v f0) q.l q.A q.css := by
      intro q hr
      simp only [List.mem_cons, List.not_mem_nil, or_false] at hr
      rcases hr with rfl | rfl | rfl
      · exact ⟨Rd.nil _ 6 _, LR.nil⟩
      · exact hl.one hb
      · exact ⟨Rd.nil _ 6 _, LR.nil⟩
    have HCC := Lib.hid (fun (wr : World) (g : Nat) (hb' : Below (w.alloc (boxM mb)).heap.size (w.alloc (boxM mb)) wr) (hR : Rd wr 1 (some ⟨g, 0, none⟩) 3 [.slice none 0 kc2, .slice (some ⟨ab, ao, none⟩) 1 c, .slice none 0 kc2]) => (show Calls Tryd.prog 47 #[.slice (some ⟨g, 0, none⟩) 3 3] wr fun e w' => ∃ A' c' css', e = .returned (.slice A' L.length c') ∧ Vs w0 w' (Mv mb t r v f0) L A' css' ∧ Below wr.heap.size wr w' from
      (vconcat_any w0 wr (Mv mb t r v f0) [⟨none, [], kc2, []⟩, ⟨some ⟨ab, ao, none⟩, [x], c, css.take 1⟩, ⟨none, [], kc2, []⟩] (some ⟨g, 0, none⟩) 3 (by simpa [Rw.cell] using hR) (fun q hr => (hrows q hr).below hb') (by rw [hrl]; omega) (by simp)).mono fun e w' ⟨A', c', h1, h2, h3⟩ => ⟨A', c', _, by rw [← hrl]; exact h1, by rw [← hrl]; exact h2, h3⟩))
    have HTU := Lib.hid (fun (wr : World) (A' : Option Addr) (c' : Nat) (css' : List (List Value)) (hb' : Below w.heap.size w wr) (hV : Vs w0 wr (Mv mb t r v f0) L A' css') => tuple_any w0 wr (Mv mb t r v f0) (fun b hbb => h.mvNew b (Nat.le_trans hb'.size hbb)) A' L css' c' hV hLl)
    have HTL := Lib.hid (fun (wr : World) (A' : Option Addr) (c' : Nat) (hb' : Below w.heap.size w wr) (hz : VR w0 wr (Mv mb t r v f0) (.mk 4 0 [] L none) [.int .i64 4, .int .i64 0, .string (bstr []), .slice none 0 0, .slice A' L.length c', .pointer none]) => (show Calls Tryd.prog 23 #[.pointer (some ⟨mb, 0, none⟩), .agg #[.int .i64 4, .int .i64 0, .string ⟨#[]⟩, .slice none 0 0, .slice A' L.length c', .pointer none]] wr fun e w' => e = .returned (.tuple #[]) ∧ Post w0 B mb (Mv mb t r v f0) wr { s with vals := s.vals ++ [.mk 4 0 [] L none] } w' from tell_any (h.below hb') hv (.mk 4 0 [] L none) (A := A') (c := c') (p := none) hz))
    have HN := Lib.hid (And.intro hyn (And.intro hk' (And.intro hx hcx)))
    have HKP := Lib.hid (fun (wr w3 : World) (s' : St) (b : Nat) (u0 u2 : Value) (hb' : Below w.heap.size w wr) (hbl : w.heap.size ≤ b) (hS : wr.cell? ⟨w.heap.size, 0, none⟩ = some u0 ∧ wr.cell? ⟨b, 4, none⟩ = some u2) (hp : Post w0 B mb (Mv mb t r v f0) wr s' w3) => keep2 h hbl hS hp)
    have HF0 := Lib.hid hf0
    clear hf0
    clear HE h hb hl hv hx hz0 hz1 hz2 hfl hkl hrl hL hLl hrows hvx hk hk' hyn ht4 ht1 hcx hpx
    go_enter Tryd.func38, Tryd.ntmps38
    go_upto_region 1 with fail
    go_cut [6, 7, 8] (fun u6 u7 u8 wx => ∃ b1 b2 : Nat, u6 = .pointer (some ⟨b1, 0, none⟩) ∧ u7 = .pointer (some ⟨b2, 0, none⟩) ∧ u8 = .int .i64 0 ∧ w.heap.size < b1 ∧ w.heap.size < b2 ∧ b1 ≠ b2 ∧ wx.heap[b1]? = some (boxV x A0 kc0 p0) ∧ wx.heap[b2]? = some (boxV y A1 kc1 p1) ∧ Below (w.alloc (boxM mb)).heap.size (w.alloc (boxM mb)) wx)
    case first =>
      go_region_held3 (fun V => V.cell? ⟨ab, ao, none⟩ = some (.int .i64 x.sort) ∧ V.cell? ⟨ab, ao + 1, none⟩ = some (.int .i64 x.n) ∧ V.cell? ⟨ab, ao + 2, none⟩ = some (.string (bstr x.s)) ∧ V.cell? ⟨ab, ao + 3, none⟩ = some (.slice none 0 0) ∧ V.cell? ⟨ab, ao + 4, none⟩ = some (.slice A0 x.l.length kc0) ∧ V.cell? ⟨ab, ao + 5, none⟩ = some (.pointer p0) ∧ V.cell? ⟨ab, ao + 6, none⟩ = some (.int .i64 y.sort) ∧ V.cell? ⟨ab, ao + 6 + 1, none⟩ = some (.int .i64 y.n) ∧ V.cell? ⟨ab, ao + 6 + 2, none⟩ = some (.string (bstr y.s)) ∧ V.cell? ⟨ab, ao + 6 + 3, none⟩ = some (.slice none 0 0) ∧ V.cell? ⟨ab, ao + 6 + 4, none⟩ = some (.slice A1 y.l.length kc1) ∧ V.cell? ⟨ab, ao + 6 + 5, none⟩ = some (.pointer p1))
        (with_reducible exact HSK.out _ (by go_grown))
        (first | fail)
      all_goals
        clear HSK HS3
        go_wp2_with fail
        go_meet
        first
          | exact ⟨w.heap.size + 1, w.heap.size + 2, rfl, rfl, rfl, by omega, by omega, by omega, HT1.out⟩
          | exact ⟨w.heap.size + 2, w.heap.size + 1, rfl, rfl, rfl, by omega, by omega, by omega, HT2.out.2.1, HT2.out.1, HT2.out.2.2⟩
    case rest =>
      obtain ⟨b1, b2, rfl, rfl, rfl, hb1g, hb2g, hb12, hq1, hq2, hbq⟩ := hcut
      clear HT1 HT2 HSK
      obtain ⟨m0, m1, m2, m3, m4, m5⟩ := HS3.out _ hbq
      clear HS3
      have zz := frozenN hq1
      have z0 := zz 0; have z1 := zz 1; have z2 := zz 2; have z3 := zz 3; have z4 := zz 4; have z5 := zz 5
      clear zz
      obtain ⟨y0, y1, y2, y3, y4, y5⟩ := cells6 hq1
      obtain ⟨hw6, hb6, ho6⟩ := own_block6 hq1 (.int .i64 f.sort) (.int .i64 f.n) (.string (bstr f.s)) (.slice none 0 0) (.slice none f.l.length kc2) (.pointer p2) hbq (by rw [World.size_alloc]; omega)
      have hq26 := (ho6 b2 (by omega)).trans hq2
      have HP6 := Lib.hid (And.intro hw6 (And.intro hq26 hb6))
      clear hq1 hq2 hbq hw6 hq26 hb6 ho6
      go_upto_region 4 with fail
      have hq1 := HP6.out.1
      have hq2 := HP6.out.2.1
      have hbq := HP6.out.2.2
      clear m0 m1 m2 m3 m4 m5 y0 y1 y2 y3 y4 y5 z0 z1 z2 z3 z4 z5 HP6
      generalize (((((wc.setCell ⟨b1, 0, none⟩ (.int .i64 f.sort)).setCell ⟨b1, 1, none⟩ (.int .i64 f.n)).setCell ⟨b1, 2, none⟩ (.string (bstr f.s))).setCell ⟨b1, 3, none⟩ (.slice none 0 0)).setCell ⟨b1, 4, none⟩ (.slice none f.l.length kc2)).setCell ⟨b1, 5, none⟩ (.pointer p2) = wd at *
      have HBW := Lib.hid (below_then HB.out hbq)
      have hc0 : wd.heap[w.heap.size]? = some (boxM mb) := (hbq.block _ (lt_of_heap HX0.out)).trans HX0.out
      have HQ := Lib.hid (And.intro hq1 (And.intro hq2 hc0))
      have HI := Lib.hid (isTuple_any wd b1 b2 f y 1 none A1 kc2 kc1 p2 p1 hq1 hq2 ⟨by decide, by decide⟩ (Nat.le_trans HXL.out (by decide)))
      rw [hT] at HI
      have HBQ := Lib.hid hbq
      clear hq1 hq2 hbq hc0
      have hf0 := HF0.out
      have n0 : (0 : Int) ≤ (0 : Int) := by omega
      have n10 : (1 : Int) ≤ (c : Int) := by have := HCP.out; omega
      have n1 : (0 : Int) ≤ (f.l.length : Int) := by have := HN.out.2.1; omega
      have n12 : (0 : Int) ≤ (kc2 : Int) := by omega
      have n2 : (f.l.length : Int) ≤ 100000000000 := by have := HN.out.2.2.1; omega
      have n3 : (f.l.length : Int) ≤ (kc2 : Int) := by have := HN.out.2.2.2.1; omega
      have n4 : (0 : Int) ≤ (kc2 : Int) := by omega
      have n7 : (kc2 : Int) ≤ 9223372036854775807 := by have := HN.out.2.2.2.2; simp only [maxLen] at this; omega
      go_upto_region 15 with (go_at_call 46; (with_reducible refine HI.out.mono ?_); rintro e1 w1 ⟨rfl, hb1⟩; obtain ⟨x0, x1, x2, x3, x4, x5⟩ := cells6 ((hb1.block _ (lt_of_heap HQ.out.2.1)).trans HQ.out.2.1); rw [HN.out.1] at x1; have HB1 := Lib.hid (below_then HBQ.out hb1); have HB0 := Lib.hid (below_then HBW.out hb1); have HS1 := Lib.hid (fun (V : World) (hb' : Below w1.heap.size w1 V) => (show V.cell? ⟨w.heap.size, 0, none⟩ = some (.pointer (some ⟨mb, 0, none⟩)) ∧ V.cell? ⟨b1, 4, none⟩ = some (.slice none f.l.length kc2) from ⟨cell_below hb' (by rw [Lib.cell_of_heap ((hb1.block _ (lt_of_heap HQ.out.2.2)).trans HQ.out.2.2)]; rfl), cell_below hb' (by rw [Lib.cell_of_heap ((hb1.block _ (lt_of_heap HQ.out.1)).trans HQ.out.1)]; rfl)⟩)); clear hb1)
      clear x0 x1 x2 x3 x4 x5
      have HB1G := Lib.hid hb1g
      clear hb1g hb2g hb12
      go_region_held3 (fun V => V.cell? ⟨w.heap.size, 0, none⟩ = some (.pointer (some ⟨mb, 0, none⟩)) ∧ V.cell? ⟨b1, 4, none⟩ = some (.slice none f.l.length kc2))
        (first | with_reducible exact HS2.out | with_reducible exact HS3.out | with_reducible exact HS4.out | with_reducible exact HS1.out _ (by go_grown) | fail)
        (first
        | (go_at_call 47; have hbw := (show Below w1.heap.size w1 ((w1.alloc (.cells #[.slice none 0 kc2, .slice (some ⟨ab, ao, none⟩) 1 c, .slice none 0 kc2] 47)).drew) from ((Below.refl _ _).alloc (Nat.le_refl _) _).drew); (with_reducible refine (HCC.out _ w1.heap.size (below_then HB1.out hbw) (Rd.drew (Rd.lit w1 #[.slice none 0 kc2, .slice (some ⟨ab, ao, none⟩) 1 c, .slice none 0 kc2] _ (size := 1) (n := 3) rfl))).mono ?_); rintro e1 w2 ⟨A', c', css', rfl, hv2, hb2⟩; have hb3 := below_then hbw hb2; have HS2 := Lib.hid (HS1.out _ hb3); have HV2 := Lib.hid hv2; have HB2 := Lib.hid hb3; clear hbw hb2 hb3 hv2)
        | (go_at_call 36; (with_reducible refine (HTU.out _ _ _ _ (below_then HB0.out HB2.out) HV2.out).mono ?_); rintro e1 w3 ⟨A9, c9, rfl, hv3, hb3⟩; have hb4 := below_then HB2.out hb3; have HS3 := Lib.hid (HS1.out _ hb4); have HV3 := Lib.hid hv3; have HB3 := Lib.hid (below_then HB0.out hb4); clear hb3 hb4 hv3)
        | (go_at_call 23; (with_reducible refine (HTL.out _ _ _ HB3.out HV3.out).mono ?_); rintro e1 w4 ⟨rfl, hp⟩; have HP := Lib.hid hp; have HS4 := Lib.hid (HKP.out _ _ _ _ _ _ HB3.out (Nat.le_of_lt HB1G.out) HS3.out hp); clear hp)
        | fail)
      all_goals
        go_wp2_with fail
        go_returns
        with_reducible exact ⟨rfl, HP.out.mono (HBM.out _ HB3.out).1 (HBM.out _ HB3.out).2⟩
  | some a =>
    obtain ⟨ht4, ht1, k, hyn, hk⟩ := isTup_iff hT
    have hk' : k ≤ f.l.length := by omega
    obtain ⟨csx, hvx, hcx, hpx⟩ := hz2.vs
    obtain rfl : k = 0 := by omega
    replace hyn : y.n = 0 := by omega
    have hfl : f.l = [] := List.eq_nil_of_length_eq_zero hf0
    have hkl : 0 ≤ f.l.length := by omega
    have HE : s.inTup 10 x y f = { s with vals := s.vals ++ [.mk 4 0 [] (tupOf 10 x f 0) none] } := by unfold St.inTup; rw [show (if (10 : Int) = 10 then (1 : Int) else 0) = 1 from rfl, hT, if_pos rfl, if_neg (by decide), hyn, Int.toNat_zero]
    rw [HE]
    have hrl : (([⟨(some a), [], kc2, []⟩, ⟨some ⟨ab, ao, none⟩, [x], c, css.take 1⟩, ⟨(some a), [], kc2, []⟩] : List Rw).flatMap Rw.l) = tupOf 10 x f 0 := by simp [tupOf, hfl]
    obtain ⟨L, hL⟩ : ∃ L, tupOf 10 x f 0 = L := ⟨_, rfl⟩
    rw [hL] at hrl ⊢
    have hLl : L.length ≤ 100000000000 := by rw [← hrl]; simp
    have hrows : ∀ q ∈ ([⟨(some a), [], kc2, []⟩, ⟨some ⟨ab, ao, none⟩, [x], c, css.take 1⟩, ⟨(some a), [], kc2, []⟩] : List Rw), Vs w0 (w.alloc (boxM mb)) (Mv mb t r v f0) q.l q.A q.css := by
      intro q hr
      simp only [List.mem_cons, List.not_mem_nil, or_false] at hr
      rcases hr with rfl | rfl | rfl
      · exact ⟨Rd.nil _ 6 _, LR.nil⟩
      · exact hl.one hb
      · exact ⟨Rd.nil _ 6 _, LR.nil⟩
    have HCC := Lib.hid (fun (wr : World) (g : Nat) (hb' : Below (w.alloc (boxM mb)).heap.size (w.alloc (boxM mb)) wr) (hR : Rd wr 1 (some ⟨g, 0, none⟩) 3 [.slice (some a) 0 kc2, .slice (some ⟨ab, ao, none⟩) 1 c, .slice (some a) 0 kc2]) => (show Calls Tryd.prog 47 #[.slice (some ⟨g, 0, none⟩) 3 3] wr fun e w' => ∃ A' c' css', e = .returned (.slice A' L.length c') ∧ Vs w0 w' (Mv mb t r v f0) L A' css' ∧ Below wr.heap.size wr w' from
      (vconcat_any w0 wr (Mv mb t r v f0) [⟨(some a), [], kc2, []⟩, ⟨some ⟨ab, ao, none⟩, [x], c, css.take 1⟩, ⟨(some a), [], kc2, []⟩] (some ⟨g, 0, none⟩) 3 (by simpa [Rw.cell] using hR) (fun q hr => (hrows q hr).below hb') (by rw [hrl]; omega) (by simp)).mono fun e w' ⟨A', c', h1, h2, h3⟩ => ⟨A', c', _, by rw [← hrl]; exact h1, by rw [← hrl]; exact h2, h3⟩))
    have HTU := Lib.hid (fun (wr : World) (A' : Option Addr) (c' : Nat) (css' : List (List Value)) (hb' : Below w.heap.size w wr) (hV : Vs w0 wr (Mv mb t r v f0) L A' css') => tuple_any w0 wr (Mv mb t r v f0) (fun b hbb => h.mvNew b (Nat.le_trans hb'.size hbb)) A' L css' c' hV hLl)
    have HTL := Lib.hid (fun (wr : World) (A' : Option Addr) (c' : Nat) (hb' : Below w.heap.size w wr) (hz : VR w0 wr (Mv mb t r v f0) (.mk 4 0 [] L none) [.int .i64 4, .int .i64 0, .string (bstr []), .slice none 0 0, .slice A' L.length c', .pointer none]) => (show Calls Tryd.prog 23 #[.pointer (some ⟨mb, 0, none⟩), .agg #[.int .i64 4, .int .i64 0, .string ⟨#[]⟩, .slice none 0 0, .slice A' L.length c', .pointer none]] wr fun e w' => e = .returned (.tuple #[]) ∧ Post w0 B mb (Mv mb t r v f0) wr { s with vals := s.vals ++ [.mk 4 0 [] L none] } w' from tell_any (h.below hb') hv (.mk 4 0 [] L none) (A := A') (c := c') (p := none) hz))
    have HN := Lib.hid (And.intro hyn (And.intro hk' (And.intro hx hcx)))
    have HKP := Lib.hid (fun (wr w3 : World) (s' : St) (b : Nat) (u0 u2 : Value) (hb' : Below w.heap.size w wr) (hbl : w.heap.size ≤ b) (hS : wr.cell? ⟨w.heap.size, 0, none⟩ = some u0 ∧ wr.cell? ⟨b, 4, none⟩ = some u2) (hp : Post w0 B mb (Mv mb t r v f0) wr s' w3) => keep2 h hbl hS hp)
    have HF0 := Lib.hid hf0
    clear hf0
    clear HE h hb hl hv hx hz0 hz1 hz2 hfl hkl hrl hL hLl hrows hvx hk hk' hyn ht4 ht1 hcx hpx
    go_enter Tryd.func38, Tryd.ntmps38
    go_upto_region 1 with fail
    go_cut [6, 7, 8] (fun u6 u7 u8 wx => ∃ b1 b2 : Nat, u6 = .pointer (some ⟨b1, 0, none⟩) ∧ u7 = .pointer (some ⟨b2, 0, none⟩) ∧ u8 = .int .i64 0 ∧ w.heap.size < b1 ∧ w.heap.size < b2 ∧ b1 ≠ b2 ∧ wx.heap[b1]? = some (boxV x A0 kc0 p0) ∧ wx.heap[b2]? = some (boxV y A1 kc1 p1) ∧ Below (w.alloc (boxM mb)).heap.size (w.alloc (boxM mb)) wx)
    case first =>
      go_region_held3 (fun V => V.cell? ⟨ab, ao, none⟩ = some (.int .i64 x.sort) ∧ V.cell? ⟨ab, ao + 1, none⟩ = some (.int .i64 x.n) ∧ V.cell? ⟨ab, ao + 2, none⟩ = some (.string (bstr x.s)) ∧ V.cell? ⟨ab, ao + 3, none⟩ = some (.slice none 0 0) ∧ V.cell? ⟨ab, ao + 4, none⟩ = some (.slice A0 x.l.length kc0) ∧ V.cell? ⟨ab, ao + 5, none⟩ = some (.pointer p0) ∧ V.cell? ⟨ab, ao + 6, none⟩ = some (.int .i64 y.sort) ∧ V.cell? ⟨ab, ao + 6 + 1, none⟩ = some (.int .i64 y.n) ∧ V.cell? ⟨ab, ao + 6 + 2, none⟩ = some (.string (bstr y.s)) ∧ V.cell? ⟨ab, ao + 6 + 3, none⟩ = some (.slice none 0 0) ∧ V.cell? ⟨ab, ao + 6 + 4, none⟩ = some (.slice A1 y.l.length kc1) ∧ V.cell? ⟨ab, ao + 6 + 5, none⟩ = some (.pointer p1))
        (with_reducible exact HSK.out _ (by go_grown))
        (first | fail)
      all_goals
        clear HSK HS3
        go_wp2_with fail
        go_meet
        first
          | exact ⟨w.heap.size + 1, w.heap.size + 2, rfl, rfl, rfl, by omega, by omega, by omega, HT1.out⟩
          | exact ⟨w.heap.size + 2, w.heap.size + 1, rfl, rfl, rfl, by omega, by omega, by omega, HT2.out.2.1, HT2.out.1, HT2.out.2.2⟩
    case rest =>
      obtain ⟨b1, b2, rfl, rfl, rfl, hb1g, hb2g, hb12, hq1, hq2, hbq⟩ := hcut
      clear HT1 HT2 HSK
      obtain ⟨m0, m1, m2, m3, m4, m5⟩ := HS3.out _ hbq
      clear HS3
      have zz := frozenN hq1
      have z0 := zz 0; have z1 := zz 1; have z2 := zz 2; have z3 := zz 3; have z4 := zz 4; have z5 := zz 5
      clear zz
      obtain ⟨y0, y1, y2, y3, y4, y5⟩ := cells6 hq1
      obtain ⟨hw6, hb6, ho6⟩ := own_block6 hq1 (.int .i64 f.sort) (.int .i64 f.n) (.string (bstr f.s)) (.slice none 0 0) (.slice (some a) f.l.length kc2) (.pointer p2) hbq (by rw [World.size_alloc]; omega)
      have hq26 := (ho6 b2 (by omega)).trans hq2
      have HP6 := Lib.hid (And.intro hw6 (And.intro hq26 hb6))
      clear hq1 hq2 hbq hw6 hq26 hb6 ho6
      go_upto_region 4 with fail
      have hq1 := HP6.out.1
      have hq2 := HP6.out.2.1
      have hbq := HP6.out.2.2
      clear m0 m1 m2 m3 m4 m5 y0 y1 y2 y3 y4 y5 z0 z1 z2 z3 z4 z5 HP6
      generalize (((((wc.setCell ⟨b1, 0, none⟩ (.int .i64 f.sort)).setCell ⟨b1, 1, none⟩ (.int .i64 f.n)).setCell ⟨b1, 2, none⟩ (.string (bstr f.s))).setCell ⟨b1, 3, none⟩ (.slice none 0 0)).setCell ⟨b1, 4, none⟩ (.slice (some a) f.l.length kc2)).setCell ⟨b1, 5, none⟩ (.pointer p2) = wd at *
      have HBW := Lib.hid (below_then HB.out hbq)
      have hc0 : wd.heap[w.heap.size]? = some (boxM mb) := (hbq.block _ (lt_of_heap HX0.out)).trans HX0.out
      have HQ := Lib.hid (And.intro hq1 (And.intro hq2 hc0))
      have HI := Lib.hid (isTuple_any wd b1 b2 f y 1 (some a) A1 kc2 kc1 p2 p1 hq1 hq2 ⟨by decide, by decide⟩ (Nat.le_trans HXL.out (by decide)))
      rw [hT] at HI
      have HBQ := Lib.hid hbq
      clear hq1 hq2 hbq hc0
      have hf0 := HF0.out
      have n0 : (0 : Int) ≤ (0 : Int) := by omega
      have n10 : (1 : Int) ≤ (c : Int) := by have := HCP.out; omega
      have n1 : (0 : Int) ≤ (f.l.length : Int) := by have := HN.out.2.1; omega
      have n12 : (0 : Int) ≤ (kc2 : Int) := by omega
      have n2 : (f.l.length : Int) ≤ 100000000000 := by have := HN.out.2.2.1; omega
      have n3 : (f.l.length : Int) ≤ (kc2 : Int) := by have := HN.out.2.2.2.1; omega
      have n4 : (0 : Int) ≤ (kc2 : Int) := by omega
      have n7 : (kc2 : Int) ≤ 9223372036854775807 := by have := HN.out.2.2.2.2; simp only [maxLen] at this; omega
      go_upto_region 15 with (go_at_call 46; (with_reducible refine HI.out.mono ?_); rintro e1 w1 ⟨rfl, hb1⟩; obtain ⟨x0, x1, x2, x3, x4, x5⟩ := cells6 ((hb1.block _ (lt_of_heap HQ.out.2.1)).trans HQ.out.2.1); rw [HN.out.1] at x1; have HB1 := Lib.hid (below_then HBQ.out hb1); have HB0 := Lib.hid (below_then HBW.out hb1); have HS1 := Lib.hid (fun (V : World) (hb' : Below w1.heap.size w1 V) => (show V.cell? ⟨w.heap.size, 0, none⟩ = some (.pointer (some ⟨mb, 0, none⟩)) ∧ V.cell? ⟨b1, 4, none⟩ = some (.slice (some a) f.l.length kc2) from ⟨cell_below hb' (by rw [Lib.cell_of_heap ((hb1.block _ (lt_of_heap HQ.out.2.2)).trans HQ.out.2.2)]; rfl), cell_below hb' (by rw [Lib.cell_of_heap ((hb1.block _ (lt_of_heap HQ.out.1)).trans HQ.out.1)]; rfl)⟩)); clear hb1)
      clear x0 x1 x2 x3 x4 x5
      have HB1G := Lib.hid hb1g
      clear hb1g hb2g hb12
      go_region_held3 (fun V => V.cell? ⟨w.heap.size, 0, none⟩ = some (.pointer (some ⟨mb, 0, none⟩)) ∧ V.cell? ⟨b1, 4, none⟩ = some (.slice (some a) f.l.length kc2))
        (first | with_reducible exact HS2.out | with_reducible exact HS3.out | with_reducible exact HS4.out | with_reducible exact HS1.out _ (by go_grown) | fail)
        (first
        | (go_at_call 47; have hbw := (show Below w1.heap.size w1 ((w1.alloc (.cells #[.slice (some a) 0 kc2, .slice (some ⟨ab, ao, none⟩) 1 c, .slice (some a) 0 kc2] 47)).drew) from ((Below.refl _ _).alloc (Nat.le_refl _) _).drew); (with_reducible refine (HCC.out _ w1.heap.size (below_then HB1.out hbw) (Rd.drew (Rd.lit w1 #[.slice (some a) 0 kc2, .slice (some ⟨ab, ao, none⟩) 1 c, .slice (some a) 0 kc2] _ (size := 1) (n := 3) rfl))).mono ?_); rintro e1 w2 ⟨A', c', css', rfl, hv2, hb2⟩; have hb3 := below_then hbw hb2; have HS2 := Lib.hid (HS1.out _ hb3); have HV2 := Lib.hid hv2; have HB2 := Lib.hid hb3; clear hbw hb2 hb3 hv2)
        | (go_at_call 36; (with_reducible refine (HTU.out _ _ _ _ (below_then HB0.out HB2.out) HV2.out).mono ?_); rintro e1 w3 ⟨A9, c9, rfl, hv3, hb3⟩; have hb4 := below_then HB2.out hb3; have HS3 := Lib.hid (HS1.out _ hb4); have HV3 := Lib.hid hv3; have HB3 := Lib.hid (below_then HB0.out hb4); clear hb3 hb4 hv3)
        | (go_at_call 23; (with_reducible refine (HTL.out _ _ _ HB3.out HV3.out).mono ?_); rintro e1 w4 ⟨rfl, hp⟩; have HP := Lib.hid hp; have HS4 := Lib.hid (HKP.out _ _ _ _ _ _ HB3.out (Nat.le_of_lt HB1G.out) HS3.out hp); clear hp)
        | fail)
      all_goals
        go_wp2_with fail
        go_returns
        with_reducible exact ⟨rfl, HP.out.mono (HBM.out _ HB3.out).1 (HBM.out _ HB3.out).2⟩
set_option maxRecDepth 100000 in
set_option maxHeartbeats 16000000 in
theorem inPutF (h : Rep w0 B mb s w t i r v f0 nx nm rcs vcs fcs) (hv : s.vals.length ≤ 100000000000) (x y f : Val) (css : List (List Value)) (ab ao c : Nat) (hl : Vs w0 w (Mv mb t r v f0) [x, y, f] (some ⟨ab, ao, none⟩) css) (hx : f.l.length ≤ 90000000000) (hc : 3 ≤ c ∧ c ≤ maxLen) (hT : isTup f y 0 = false) :
    Calls Tryd.prog 38 #[.agg #[.pointer (some ⟨mb, 0, none⟩)], .int .i64 12, .slice (some ⟨ab, ao, none⟩) 3 c] w fun e1 w' => e1 = .returned (.tuple #[]) ∧ Post w0 B mb (Mv mb t r v f0) w (s.inTup 12 x y f) w' := by
  have hb : Below w.heap.size w (w.alloc (boxM mb)) := (Below.refl _ _).alloc (Nat.le_refl _) _
  obtain ⟨A0, kc0, p0, hz0, g00, g01, g02, g03, g04, g05⟩ := (hl.below hb).six 0 (z := x) rfl (ao) (ao + 1) (ao + 2) (ao + 3) (ao + 4) (ao + 5) ⟨by omega, by omega, by omega, by omega, by omega, by omega⟩
  obtain ⟨A1, kc1, p1, hz1, g10, g11, g12, g13, g14, g15⟩ := (hl.below hb).six 1 (z := y) rfl (ao + 6) (ao + 6 + 1) (ao + 6 + 2) (ao + 6 + 3) (ao + 6 + 4) (ao + 6 + 5) ⟨by omega, by omega, by omega, by omega, by omega, by omega⟩
  obtain ⟨A2, kc2, p2, hz2, g20, g21, g22, g23, g24, g25⟩ := (hl.below hb).six 2 (z := f) rfl (ao + 12) (ao + 12 + 1) (ao + 12 + 2) (ao + 12 + 3) (ao + 12 + 4) (ao + 12 + 5) ⟨by omega, by omega, by omega, by omega, by omega, by omega⟩
  have HSK := Lib.hid (fun (V : World) (hb' : Below (w.alloc (boxM mb)).heap.size (w.alloc (boxM mb)) V) => (show V.cell? ⟨ab, ao, none⟩ = some (.int .i64 x.sort) ∧ V.cell? ⟨ab, ao + 1, none⟩ = some (.int .i64 x.n) ∧ V.cell? ⟨ab, ao + 2, none⟩ = some (.string (bstr x.s)) ∧ V.cell? ⟨ab, ao + 3, none⟩ = some (.slice none 0 0) ∧ V.cell? ⟨ab, ao + 4, none⟩ = some (.slice A0 x.l.length kc0) ∧ V.cell? ⟨ab, ao + 5, none⟩ = some (.pointer p0) ∧ V.cell? ⟨ab, ao + 6, none⟩ = some (.int .i64 y.sort) ∧ V.cell? ⟨ab, ao + 6 + 1, none⟩ = some (.int .i64 y.n) ∧ V.cell? ⟨ab, ao + 6 + 2, none⟩ = some (.string (bstr y.s)) ∧ V.cell? ⟨ab, ao + 6 + 3, none⟩ = some (.slice none 0 0) ∧ V.cell? ⟨ab, ao + 6 + 4, none⟩ = some (.slice A1 y.l.length kc1) ∧ V.cell? ⟨ab, ao + 6 + 5, none⟩ = some (.pointer p1) from ⟨cell_below hb' g00, cell_below hb' g01, cell_below hb' g02, cell_below hb' g03, cell_below hb' g04, cell_below hb' g05, cell_below hb' g10, cell_below hb' g11, cell_below hb' g12, cell_below hb' g13, cell_below hb' g14, cell_below hb' g15⟩))
  have HS3 := Lib.hid (fun (V : World) (hb' : Below (w.alloc (boxM mb)).heap.size (w.alloc (boxM mb)) V) => (show V.cell? ⟨ab, ao + 12, none⟩ = some (.int .i64 f.sort) ∧ V.cell? ⟨ab, ao + 12 + 1, none⟩ = some (.int .i64 f.n) ∧ V.cell? ⟨ab, ao + 12 + 2, none⟩ = some (.string (bstr f.s)) ∧ V.cell? ⟨ab, ao + 12 + 3, none⟩ = some (.slice none 0 0) ∧ V.cell? ⟨ab, ao + 12 + 4, none⟩ = some (.slice A2 f.l.length kc2) ∧ V.cell? ⟨ab, ao + 12 + 5, none⟩ = some (.pointer p2) from ⟨cell_below hb' g20, cell_below hb' g21, cell_below hb' g22, cell_below hb' g23, cell_below hb' g24, cell_below hb' g25⟩))
  clear g00 g01 g02 g03 g04 g05 g10 g11 g12 g13 g14 g15 g20 g21 g22 g23 g24 g25
  have HX0 := Lib.hid (heap_new (w := w) (o := boxM mb) rfl)
  have HZ0 := Lib.hid hz0
  have HZ1 := Lib.hid hz1
  have HZ2 := Lib.hid hz2
  have HCP := Lib.hid hc
  clear hc
  have HB := Lib.hid hb
  have HH := Lib.hid h
  have HV := Lib.hid hv
  have HXL := Lib.hid hx
  have HT1 := Lib.hid (two_new (w.alloc (boxM mb)) (w.heap.size + 1) (World.size_alloc _ _) (boxV x A0 kc0 p0) (boxV y A1 kc1 p1))
  have HT2 := Lib.hid (two_new (w.alloc (boxM mb)) (w.heap.size + 1) (World.size_alloc _ _) (boxV y A1 kc1 p1) (boxV x A0 kc0 p0))
  have HBM := Lib.hid (fun (wr : World) (hb : Below w.heap.size w wr) => And.intro (Tr.below (P := Mv mb t r v f0) hb) (hb.mono (Nat.le_of_lt (Nat.lt_of_le_of_lt h.base.2 h.lt))))
  have HS := Lib.hid (fun (wr : World) (hb : Below w.heap.size w wr) => stuck_any (h.below hb))
  have HE : s.inTup 12 x y f = { s with err := 11 } := by unfold St.inTup; rw [show (if (12 : Int) = 10 then (1 : Int) else 0) = 0 from rfl, hT, if_neg (by decide)]
  rw [HE]
  clear HE h hb hl hv hx hz0 hz1 hz2
  go_enter Tryd.func38, Tryd.ntmps38
  go_upto_region 1 with fail
  go_cut [6, 7, 8] (fun u6 u7 u8 wx => ∃ b1 b2 : Nat, u6 = .pointer (some ⟨b1, 0, none⟩) ∧ u7 = .pointer (some ⟨b2, 0, none⟩) ∧ u8 = .int .i64 0 ∧ w.heap.size < b1 ∧ w.heap.size < b2 ∧ b1 ≠ b2 ∧ wx.heap[b1]? = some (boxV x A0 kc0 p0) ∧ wx.heap[b2]? = some (boxV y A1 kc1 p1) ∧ Below (w.alloc (boxM mb)).heap.size (w.alloc (boxM mb)) wx)
  case first =>
    go_region_held3 (fun V => V.cell? ⟨ab, ao, none⟩ = some (.int .i64 x.sort) ∧ V.cell? ⟨ab, ao + 1, none⟩ = some (.int .i64 x.n) ∧ V.cell? ⟨ab, ao + 2, none⟩ = some (.string (bstr x.s)) ∧ V.cell? ⟨ab, ao + 3, none⟩ = some (.slice none 0 0) ∧ V.cell? ⟨ab, ao + 4, none⟩ = some (.slice A0 x.l.length kc0) ∧ V.cell? ⟨ab, ao + 5, none⟩ = some (.pointer p0) ∧ V.cell? ⟨ab, ao + 6, none⟩ = some (.int .i64 y.sort) ∧ V.cell? ⟨ab, ao + 6 + 1, none⟩ = some (.int .i64 y.n) ∧ V.cell? ⟨ab, ao + 6 + 2, none⟩ = some (.string (bstr y.s)) ∧ V.cell? ⟨ab, ao + 6 + 3, none⟩ = some (.slice none 0 0) ∧ V.cell? ⟨ab, ao + 6 + 4, none⟩ = some (.slice A1 y.l.length kc1) ∧ V.cell? ⟨ab, ao + 6 + 5, none⟩ = some (.pointer p1))
      (with_reducible exact HSK.out _ (by go_grown))
      (first | fail)
    all_goals
      clear HSK HS3
      go_wp2_with fail
      go_meet
      first
        | exact ⟨w.heap.size + 1, w.heap.size + 2, rfl, rfl, rfl, by omega, by omega, by omega, HT1.out⟩
        | exact ⟨w.heap.size + 2, w.heap.size + 1, rfl, rfl, rfl, by omega, by omega, by omega, HT2.out.2.1, HT2.out.1, HT2.out.2.2⟩
  case rest =>
    obtain ⟨b1, b2, rfl, rfl, rfl, hb1g, hb2g, hb12, hq1, hq2, hbq⟩ := hcut
    clear HT1 HT2 HSK
    obtain ⟨m0, m1, m2, m3, m4, m5⟩ := HS3.out _ hbq
    clear HS3
    have zz := frozenN hq1
    have z0 := zz 0; have z1 := zz 1; have z2 := zz 2; have z3 := zz 3; have z4 := zz 4; have z5 := zz 5
    clear zz
    obtain ⟨y0, y1, y2, y3, y4, y5⟩ := cells6 hq1
    obtain ⟨hw6, hb6, ho6⟩ := own_block6 hq1 (.int .i64 f.sort) (.int .i64 f.n) (.string (bstr f.s)) (.slice none 0 0) (.slice A2 f.l.length kc2) (.pointer p2) hbq (by rw [World.size_alloc]; omega)
    have hq26 := (ho6 b2 (by omega)).trans hq2
    have HP6 := Lib.hid (And.intro hw6 (And.intro hq26 hb6))
    clear hq1 hq2 hbq hw6 hq26 hb6 ho6
    go_upto_region 4 with fail
    have hq1 := HP6.out.1
    have hq2 := HP6.out.2.1
    have hbq := HP6.out.2.2
    clear m0 m1 m2 m3 m4 m5 y0 y1 y2 y3 y4 y5 z0 z1 z2 z3 z4 z5 HP6
    generalize (((((wc.setCell ⟨b1, 0, none⟩ (.int .i64 f.sort)).setCell ⟨b1, 1, none⟩ (.int .i64 f.n)).setCell ⟨b1, 2, none⟩ (.string (bstr f.s))).setCell ⟨b1, 3, none⟩ (.slice none 0 0)).setCell ⟨b1, 4, none⟩ (.slice A2 f.l.length kc2)).setCell ⟨b1, 5, none⟩ (.pointer p2) = wd at *
    have HBW := Lib.hid (below_then HB.out hbq)
    have hc0 : wd.heap[w.heap.size]? = some (boxM mb) := (hbq.block _ (lt_of_heap HX0.out)).trans HX0.out
    have HQ := Lib.hid (And.intro hq1 (And.intro hq2 hc0))
    have HI := Lib.hid (isTuple_any wd b1 b2 f y 0 A2 A1 kc2 kc1 p2 p1 hq1 hq2 ⟨by decide, by decide⟩ (Nat.le_trans HXL.out (by decide)))
    rw [hT] at HI
    clear hq1 hq2 hbq hc0
    go_wp2_with (first
      | (go_at_call 46; (with_reducible refine HI.out.mono ?_); rintro e1 w1 ⟨rfl, hb1⟩; have c0 : w1.cell? ⟨w.heap.size, 0, none⟩ = some (.pointer (some ⟨mb, 0, none⟩)) := (by rw [Lib.cell_of_heap ((hb1.block _ (lt_of_heap HQ.out.2.2)).trans HQ.out.2.2)]; rfl); have HB1 := Lib.hid (below_then HBW.out hb1); clear hb1)
      | (go_at_call 22; (with_reducible refine (HS.out _ HB1.out).mono ?_); rintro e1 w2 ⟨rfl, hp⟩; have HP := Lib.hid hp; clear hp))
    go_returns
    with_reducible exact ⟨rfl, HP.out.mono (HBM.out _ HB1.out).1 (HBM.out _ HB1.out).2⟩
set_option maxRecDepth 100000 in
set_option maxHeartbeats 16000000 in
theorem inPutT (h : Rep w0 B mb s w t i r v f0 nx nm rcs vcs fcs) (hv : s.vals.length ≤ 100000000000) (x y f : Val) (css : List (List Value)) (ab ao c : Nat) (hl : Vs w0 w (Mv mb t r v f0) [x, y, f] (some ⟨ab, ao, none⟩) css) (hx : f.l.length ≤ 90000000000) (hc : 3 ≤ c ∧ c ≤ maxLen) (hT : isTup f y 0 = true) :
    Calls Tryd.prog 38 #[.agg #[.pointer (some ⟨mb, 0, none⟩)], .int .i64 12, .slice (some ⟨ab, ao, none⟩) 3 c] w fun e1 w' => e1 = .returned (.tuple #[]) ∧ Post w0 B mb (Mv mb t r v f0) w (s.inTup 12 x y f) w' := by
  have hb : Below w.heap.size w (w.alloc (boxM mb)) := (Below.refl _ _).alloc (Nat.le_refl _) _
  obtain ⟨A0, kc0, p0, hz0, g00, g01, g02, g03, g04, g05⟩ := (hl.below hb).six 0 (z := x) rfl (ao) (ao + 1) (ao + 2) (ao + 3) (ao + 4) (ao + 5) ⟨by omega, by omega, by omega, by omega, by omega, by omega⟩
  obtain ⟨A1, kc1, p1, hz1, g10, g11, g12, g13, g14, g15⟩ := (hl.below hb).six 1 (z := y) rfl (ao + 6) (ao + 6 + 1) (ao + 6 + 2) (ao + 6 + 3) (ao + 6 + 4) (ao + 6 + 5) ⟨by omega, by omega, by omega, by omega, by omega, by omega⟩
  obtain ⟨A2, kc2, p2, hz2, g20, g21, g22, g23, g24, g25⟩ := (hl.below hb).six 2 (z := f) rfl (ao + 12) (ao + 12 + 1) (ao + 12 + 2) (ao + 12 + 3) (ao + 12 + 4) (ao + 12 + 5) ⟨by omega, by omega, by omega, by omega, by omega, by omega⟩
  have HSK := Lib.hid (fun (V : World) (hb' : Below (w.alloc (boxM mb)).heap.size (w.alloc (boxM mb)) V) => (show V.cell? ⟨ab, ao, none⟩ = some (.int .i64 x.sort) ∧ V.cell? ⟨ab, ao + 1, none⟩ = some (.int .i64 x.n) ∧ V.cell? ⟨ab, ao + 2, none⟩ = some (.string (bstr x.s)) ∧ V.cell? ⟨ab, ao + 3, none⟩ = some (.slice none 0 0) ∧ V.cell? ⟨ab, ao + 4, none⟩ = some (.slice A0 x.l.length kc0) ∧ V.cell? ⟨ab, ao + 5, none⟩ = some (.pointer p0) ∧ V.cell? ⟨ab, ao + 6, none⟩ = some (.int .i64 y.sort) ∧ V.cell? ⟨ab, ao + 6 + 1, none⟩ = some (.int .i64 y.n) ∧ V.cell? ⟨ab, ao + 6 + 2, none⟩ = some (.string (bstr y.s)) ∧ V.cell? ⟨ab, ao + 6 + 3, none⟩ = some (.slice none 0 0) ∧ V.cell? ⟨ab, ao + 6 + 4, none⟩ = some (.slice A1 y.l.length kc1) ∧ V.cell? ⟨ab, ao + 6 + 5, none⟩ = some (.pointer p1) from ⟨cell_below hb' g00, cell_below hb' g01, cell_below hb' g02, cell_below hb' g03, cell_below hb' g04, cell_below hb' g05, cell_below hb' g10, cell_below hb' g11, cell_below hb' g12, cell_below hb' g13, cell_below hb' g14, cell_below hb' g15⟩))
  have HS3 := Lib.hid (fun (V : World) (hb' : Below (w.alloc (boxM mb)).heap.size (w.alloc (boxM mb)) V) => (show V.cell? ⟨ab, ao + 12, none⟩ = some (.int .i64 f.sort) ∧ V.cell? ⟨ab, ao + 12 + 1, none⟩ = some (.int .i64 f.n) ∧ V.cell? ⟨ab, ao + 12 + 2, none⟩ = some (.string (bstr f.s)) ∧ V.cell? ⟨ab, ao + 12 + 3, none⟩ = some (.slice none 0 0) ∧ V.cell? ⟨ab, ao + 12 + 4, none⟩ = some (.slice A2 f.l.length kc2) ∧ V.cell? ⟨ab, ao + 12 + 5, none⟩ = some (.pointer p2) from ⟨cell_below hb' g20, cell_below hb' g21, cell_below hb' g22, cell_below hb' g23, cell_below hb' g24, cell_below hb' g25⟩))
  clear g00 g01 g02 g03 g04 g05 g10 g11 g12 g13 g14 g15 g20 g21 g22 g23 g24 g25
  have HX0 := Lib.hid (heap_new (w := w) (o := boxM mb) rfl)
  have HZ0 := Lib.hid hz0
  have HZ1 := Lib.hid hz1
  have HZ2 := Lib.hid hz2
  have HCP := Lib.hid hc
  clear hc
  have HB := Lib.hid hb
  have HH := Lib.hid h
  have HV := Lib.hid hv
  have HXL := Lib.hid hx
  have HT1 := Lib.hid (two_new (w.alloc (boxM mb)) (w.heap.size + 1) (World.size_alloc _ _) (boxV x A0 kc0 p0) (boxV y A1 kc1 p1))
  have HT2 := Lib.hid (two_new (w.alloc (boxM mb)) (w.heap.size + 1) (World.size_alloc _ _) (boxV y A1 kc1 p1) (boxV x A0 kc0 p0))
  have HBM := Lib.hid (fun (wr : World) (hb : Below w.heap.size w wr) => And.intro (Tr.below (P := Mv mb t r v f0) hb) (hb.mono (Nat.le_of_lt (Nat.lt_of_le_of_lt h.base.2 h.lt))))
  obtain ⟨ht4, ht1, k, hyn, hk⟩ := isTup_iff hT
  have hk' : k < f.l.length := by omega
  obtain ⟨csx, hvx, hcx, hpx⟩ := hz2.vs
  obtain ⟨a, rfl⟩ : ∃ a, A2 = some a := by
    obtain ⟨fb, fo, e⟩ := hvx.addr (by omega)
    exact ⟨_, e⟩
  have hkl : k ≤ f.l.length := by omega
  have hd3 := hvx.dropC (k + 1) (by omega) kc2 (by omega)
  obtain ⟨A3, hA3⟩ : ∃ A3, (if kc2 = k + 1 then some a else some (a.add ((k + 1) * 6))) = A3 := ⟨_, rfl⟩
  rw [hA3] at hd3
  have HE : s.inTup 12 x y f = { s with vals := s.vals ++ [.mk 4 0 [] (tupOf 12 x f k) none] } := by unfold St.inTup; rw [show (if (12 : Int) = 10 then (1 : Int) else 0) = 0 from rfl, hT, if_pos rfl, if_neg (by decide), hyn, Int.toNat_natCast]
  rw [HE]
  have hrl : (([⟨some a, f.l.take k, kc2, csx.take k⟩, ⟨some ⟨ab, ao, none⟩, [x], c, css.take 1⟩, ⟨A3, f.l.drop (k + 1), kc2 - (k + 1), csx.drop (k + 1)⟩] : List Rw).flatMap Rw.l) = tupOf 12 x f k := by simp [tupOf]
  obtain ⟨L, hL⟩ : ∃ L, tupOf 12 x f k = L := ⟨_, rfl⟩
  rw [hL] at hrl ⊢
  have hLl : L.length ≤ 100000000000 := by rw [← hrl]; simp; omega
  have hrows : ∀ q ∈ ([⟨some a, f.l.take k, kc2, csx.take k⟩, ⟨some ⟨ab, ao, none⟩, [x], c, css.take 1⟩, ⟨A3, f.l.drop (k + 1), kc2 - (k + 1), csx.drop (k + 1)⟩] : List Rw), Vs w0 (w.alloc (boxM mb)) (Mv mb t r v f0) q.l q.A q.css := by
    intro q hr
    simp only [List.mem_cons, List.not_mem_nil, or_false] at hr
    rcases hr with rfl | rfl | rfl
    · exact hvx.take k hkl
    · exact hl.one hb
    · exact hd3
  have HCC := Lib.hid (fun (wr : World) (g : Nat) (hb' : Below (w.alloc (boxM mb)).heap.size (w.alloc (boxM mb)) wr) (hR : Rd wr 1 (some ⟨g, 0, none⟩) 3 [.slice (some a) k kc2, .slice (some ⟨ab, ao, none⟩) 1 c, .slice A3 (f.l.length - (k + 1)) (kc2 - (k + 1))]) => (show Calls Tryd.prog 47 #[.slice (some ⟨g, 0, none⟩) 3 3] wr fun e w' => ∃ A' c' css', e = .returned (.slice A' L.length c') ∧ Vs w0 w' (Mv mb t r v f0) L A' css' ∧ Below wr.heap.size wr w' from
    (vconcat_any w0 wr (Mv mb t r v f0) [⟨some a, f.l.take k, kc2, csx.take k⟩, ⟨some ⟨ab, ao, none⟩, [x], c, css.take 1⟩, ⟨A3, f.l.drop (k + 1), kc2 - (k + 1), csx.drop (k + 1)⟩] (some ⟨g, 0, none⟩) 3 (by simpa [Rw.cell, hkl] using hR) (fun q hr => (hrows q hr).below hb') (by rw [hrl]; omega) (by simp)).mono fun e w' ⟨A', c', h1, h2, h3⟩ => ⟨A', c', _, by rw [← hrl]; exact h1, by rw [← hrl]; exact h2, h3⟩))
  have HTU := Lib.hid (fun (wr : World) (A' : Option Addr) (c' : Nat) (css' : List (List Value)) (hb' : Below w.heap.size w wr) (hV : Vs w0 wr (Mv mb t r v f0) L A' css') => tuple_any w0 wr (Mv mb t r v f0) (fun b hbb => h.mvNew b (Nat.le_trans hb'.size hbb)) A' L css' c' hV hLl)
  have HTL := Lib.hid (fun (wr : World) (A' : Option Addr) (c' : Nat) (hb' : Below w.heap.size w wr) (hz : VR w0 wr (Mv mb t r v f0) (.mk 4 0 [] L none) [.int .i64 4, .int .i64 0, .string (bstr []), .slice none 0 0, .slice A' L.length c', .pointer none]) => (show Calls Tryd.prog 23 #[.pointer (some ⟨mb, 0, none⟩), .agg #[.int .i64 4, .int .i64 0, .string ⟨#[]⟩, .slice none 0 0, .slice A' L.length c', .pointer none]] wr fun e w' => e = .returned (.tuple #[]) ∧ Post w0 B mb (Mv mb t r v f0) wr { s with vals := s.vals ++ [.mk 4 0 [] L none] } w' from tell_any (h.below hb') hv (.mk 4 0 [] L none) (A := A') (c := c') (p := none) hz))
  have HN := Lib.hid (And.intro hyn (And.intro hk' (And.intro hx hcx)))
  have HKP := Lib.hid (fun (wr w3 : World) (s' : St) (b : Nat) (u0 u2 : Value) (hb' : Below w.heap.size w wr) (hbl : w.heap.size ≤ b) (hS : wr.cell? ⟨w.heap.size, 0, none⟩ = some u0 ∧ wr.cell? ⟨b, 4, none⟩ = some u2) (hp : Post w0 B mb (Mv mb t r v f0) wr s' w3) => keep2 h hbl hS hp)
  clear HE h hb hl hv hx hz0 hz1 hz2 hkl hrl hL hLl hrows hvx hd3 hk hk' hyn ht4 ht1 hcx hpx
  go_enter Tryd.func38, Tryd.ntmps38
  go_upto_region 1 with fail
  go_cut [6, 7, 8] (fun u6 u7 u8 wx => ∃ b1 b2 : Nat, u6 = .pointer (some ⟨b1, 0, none⟩) ∧ u7 = .pointer (some ⟨b2, 0, none⟩) ∧ u8 = .int .i64 0 ∧ w.heap.size < b1 ∧ w.heap.size < b2 ∧ b1 ≠ b2 ∧ wx.heap[b1]? = some (boxV x A0 kc0 p0) ∧ wx.heap[b2]? = some (boxV y A1 kc1 p1) ∧ Below (w.alloc (boxM mb)).heap.size (w.alloc (boxM mb)) wx)
  case first =>
    go_region_held3 (fun V => V.cell? ⟨ab, ao, none⟩ = some (.int .i64 x.sort) ∧ V.cell? ⟨ab, ao + 1, none⟩ = some (.int .i64 x.n) ∧ V.cell? ⟨ab, ao + 2, none⟩ = some (.string (bstr x.s)) ∧ V.cell? ⟨ab, ao + 3, none⟩ = some (.slice none 0 0) ∧ V.cell? ⟨ab, ao + 4, none⟩ = some (.slice A0 x.l.length kc0) ∧ V.cell? ⟨ab, ao + 5, none⟩ = some (.pointer p0) ∧ V.cell? ⟨ab, ao + 6, none⟩ = some (.int .i64 y.sort) ∧ V.cell? ⟨ab, ao + 6 + 1, none⟩ = some (.int .i64 y.n) ∧ V.cell? ⟨ab, ao + 6 + 2, none⟩ = some (.string (bstr y.s)) ∧ V.cell? ⟨ab, ao + 6 + 3, none⟩ = some (.slice none 0 0) ∧ V.cell? ⟨ab, ao + 6 + 4, none⟩ = some (.slice A1 y.l.length kc1) ∧ V.cell? ⟨ab, ao + 6 + 5, none⟩ = some (.pointer p1))
      (with_reducible exact HSK.out _ (by go_grown))
      (first | fail)
    all_goals
      clear HSK HS3
      go_wp2_with fail
      go_meet
      first
        | exact ⟨w.heap.size + 1, w.heap.size + 2, rfl, rfl, rfl, by omega, by omega, by omega, HT1.out⟩
        | exact ⟨w.heap.size + 2, w.heap.size + 1, rfl, rfl, rfl, by omega, by omega, by omega, HT2.out.2.1, HT2.out.1, HT2.out.2.2⟩
  case rest =>
    obtain ⟨b1, b2, rfl, rfl, rfl, hb1g, hb2g, hb12, hq1, hq2, hbq⟩ := hcut
    clear HT1 HT2 HSK
    obtain ⟨m0, m1, m2, m3, m4, m5⟩ := HS3.out _ hbq
    clear HS3
    have zz := frozenN hq1
    have z0 := zz 0; have z1 := zz 1; have z2 := zz 2; have z3 := zz 3; have z4 := zz 4; have z5 := zz 5
    clear zz
    obtain ⟨y0, y1, y2, y3, y4, y5⟩ := cells6 hq1
    obtain ⟨hw6, hb6, ho6⟩ := own_block6 hq1 (.int .i64 f.sort) (.int .i64 f.n) (.string (bstr f.s)) (.slice none 0 0) (.slice (some a) f.l.length kc2) (.pointer p2) hbq (by rw [World.size_alloc]; omega)
    have hq26 := (ho6 b2 (by omega)).trans hq2
    have HP6 := Lib.hid (And.intro hw6 (And.intro hq26 hb6))
    clear hq1 hq2 hbq hw6 hq26 hb6 ho6
    go_upto_region 4 with fail
    have hq1 := HP6.out.1
    have hq2 := HP6.out.2.1
    have hbq := HP6.out.2.2
    clear m0 m1 m2 m3 m4 m5 y0 y1 y2 y3 y4 y5 z0 z1 z2 z3 z4 z5 HP6
    generalize (((((wc.setCell ⟨b1, 0, none⟩ (.int .i64 f.sort)).setCell ⟨b1, 1, none⟩ (.int .i64 f.n)).setCell ⟨b1, 2, none⟩ (.string (bstr f.s))).setCell ⟨b1, 3, none⟩ (.slice none 0 0)).setCell ⟨b1, 4, none⟩ (.slice (some a) f.l.length kc2)).setCell ⟨b1, 5, none⟩ (.pointer p2) = wd at *
    have HBW := Lib.hid (below_then HB.out hbq)
    have hc0 : wd.heap[w.heap.size]? = some (boxM mb) := (hbq.block _ (lt_of_heap HX0.out)).trans HX0.out
    have HQ := Lib.hid (And.intro hq1 (And.intro hq2 hc0))
    have HI := Lib.hid (isTuple_any wd b1 b2 f y 0 (some a) A1 kc2 kc1 p2 p1 hq1 hq2 ⟨by decide, by decide⟩ (Nat.le_trans HXL.out (by decide)))
    rw [hT] at HI
    have HBQ := Lib.hid hbq
    clear hq1 hq2 hbq hc0
    have n0 : (0 : Int) ≤ (k : Int) := by omega
    have n10 : (1 : Int) ≤ (c : Int) := by have := HCP.out; omega
    have n1 : (k : Int) < (f.l.length : Int) := by have := HN.out.2.1; omega
    have n2 : (f.l.length : Int) ≤ 100000000000 := by have := HN.out.2.2.1; omega
    have n3 : (f.l.length : Int) ≤ (kc2 : Int) := by have := HN.out.2.2.2.1; omega
    have n4 : (k : Int) ≤ (kc2 : Int) := by omega
    have n7 : (kc2 : Int) ≤ 9223372036854775807 := by have := HN.out.2.2.2.2; simp only [maxLen] at this; omega
    have n5 : (k : Int) + 1 ≤ (f.l.length : Int) := by omega
    have n6 : (0 : Int) ≤ (k : Int) + 1 := by omega
    have n8 : IntKind.i64.wrap ((k : Int) + 1) = (k : Int) + 1 := by rw [IntKind.wrap_i64]; omega
    have n9 : (k : Int) + 1 ≤ (kc2 : Int) := by omega
    go_upto_region 17 with (go_at_call 46; (with_reducible refine HI.out.mono ?_); rintro e1 w1 ⟨rfl, hb1⟩; obtain ⟨x0, x1, x2, x3, x4, x5⟩ := cells6 ((hb1.block _ (lt_of_heap HQ.out.2.1)).trans HQ.out.2.1); rw [HN.out.1] at x1; have HB1 := Lib.hid (below_then HBQ.out hb1); have HB0 := Lib.hid (below_then HBW.out hb1); have HS1 := Lib.hid (fun (V : World) (hb' : Below w1.heap.size w1 V) => (show V.cell? ⟨w.heap.size, 0, none⟩ = some (.pointer (some ⟨mb, 0, none⟩)) ∧ V.cell? ⟨b1, 4, none⟩ = some (.slice (some a) f.l.length kc2) from ⟨cell_below hb' (by rw [Lib.cell_of_heap ((hb1.block _ (lt_of_heap HQ.out.2.2)).trans HQ.out.2.2)]; rfl), cell_below hb' (by rw [Lib.cell_of_heap ((hb1.block _ (lt_of_heap HQ.out.1)).trans HQ.out.1)]; rfl)⟩)); clear hb1)
    clear x0 x1 x2 x3 x4 x5
    have HB1G := Lib.hid hb1g
    clear hb1g hb2g hb12
    go_region_held3 (fun V => V.cell? ⟨w.heap.size, 0, none⟩ = some (.pointer (some ⟨mb, 0, none⟩)) ∧ V.cell? ⟨b1, 4, none⟩ = some (.slice (some a) f.l.length kc2))
      (first | with_reducible exact HS2.out | with_reducible exact HS3.out | with_reducible exact HS4.out | with_reducible exact HS1.out _ (by go_grown) | fail)
      (first
      | (go_at_call 47; have hbw := (show Below w1.heap.size w1 ((w1.alloc (.cells #[.slice (some a) k kc2, .slice (some ⟨ab, ao, none⟩) 1 c, .slice A3 (f.l.length - (k + 1)) (kc2 - (k + 1))] 47)).drew) from ((Below.refl _ _).alloc (Nat.le_refl _) _).drew); (with_reducible refine (HCC.out _ w1.heap.size (below_then HB1.out hbw) (Rd.drew (Rd.lit w1 #[.slice (some a) k kc2, .slice (some ⟨ab, ao, none⟩) 1 c, .slice A3 (f.l.length - (k + 1)) (kc2 - (k + 1))] _ (size := 1) (n := 3) rfl))).mono ?_); rintro e1 w2 ⟨A', c', css', rfl, hv2, hb2⟩; have hb3 := below_then hbw hb2; have HS2 := Lib.hid (HS1.out _ hb3); have HV2 := Lib.hid hv2; have HB2 := Lib.hid hb3; clear hbw hb2 hb3 hv2)
      | (go_at_call 36; (with_reducible refine (HTU.out _ _ _ _ (below_then HB0.out HB2.out) HV2.out).mono ?_); rintro e1 w3 ⟨A9, c9, rfl, hv3, hb3⟩; have hb4 := below_then HB2.out hb3; have HS3 := Lib.hid (HS1.out _ hb4); have HV3 := Lib.hid hv3; have HB3 := Lib.hid (below_then HB0.out hb4); clear hb3 hb4 hv3)
      | (go_at_call 23; (with_reducible refine (HTL.out _ _ _ HB3.out HV3.out).mono ?_); rintro e1 w4 ⟨rfl, hp⟩; have HP := Lib.hid hp; have HS4 := Lib.hid (HKP.out _ _ _ _ _ _ HB3.out (Nat.le_of_lt HB1G.out) HS3.out hp); clear hp)
      | fail)
    all_goals
      go_wp2_with fail
      go_returns
      with_reducible exact ⟨rfl, HP.out.mono (HBM.out _ HB3.out).1 (HBM.out _ HB3.out).2⟩
theorem inThree_any (h : Rep w0 B mb s w t i r v f0 nx nm rcs vcs fcs) (hv : s.vals.length ≤ 100000000000) (kind : Int) (hk : kind = 10 ∨ kind = 12) (x y f : Val) (css : List (List Value)) (ab ao c : Nat) (hl : Vs w0 w (Mv mb t r v f0) [x, y, f] (some ⟨ab, ao, none⟩) css) (hx : f.l.length ≤ 90000000000) (hc : 3 ≤ c ∧ c ≤ maxLen) :
    Calls Tryd.prog 38 #[.agg #[.pointer (some ⟨mb, 0, none⟩)], .int .i64 kind, .slice (some ⟨ab, ao, none⟩) 3 c] w fun e1 w' => e1 = .returned (.tuple #[]) ∧ Post w0 B mb (Mv mb t r v f0) w (s.inTup kind x y f) w' := by
  rcases hk with rfl | rfl
  · cases hT : isTup f y 1 with
    | false => exact inInsF h hv x y f css ab ao c hl hx hc hT
    | true =>
      rcases Nat.eq_zero_or_pos f.l.length with h0 | h0
      · exact inInsN h hv x y f css ab ao c hl hx hc hT h0
      · exact inInsT h hv x y f css ab ao c hl hx hc hT h0
  · cases hT : isTup f y 0 with
    | false => exact inPutF h hv x y f css ab ao c hl hx hc hT
    | true => exact inPutT h hv x y f css ab ao c hl hx hc hT
end
end Go.Proofs.YtpdfjdomjklkbaaDoor
