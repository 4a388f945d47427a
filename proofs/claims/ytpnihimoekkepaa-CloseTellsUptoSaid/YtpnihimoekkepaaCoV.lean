/-
  Numbers given to an expression's functions, by the code.
-/
import Derived.Test.YtpnihimoekkepaaCoG
namespace Go.Proofs.Ytpnihimoekkepaa
open Go.ChangeShapes Go.WideShapes Go.ChangeAt Go.RowKit Go.Sort
set_option linter.unusedVariables false
set_option linter.unusedSimpArgs false

/-- What stands when the told cells are made. -/
structure StN (W : World) (p : Nat) (v : Value) (vs : List Value) (g : Nat) (d : ExD) (A : Option Addr) (c : Nat) (V : World) : Prop where
  b : Below W.heap.size W V
  hd : V.heap[g]? = some (.cells #[.int .i64 d.kind, .int .i64 d.n, .string (bstr d.s), .string (bstr d.t), .slice A d.nn c, .slice none 0 0] 25)
  rs : V.heap[W.heap.size]? = some (.cells #[.int .i64 0, .int .i64 0, .string ⟨#[]⟩, .string ⟨#[]⟩, .slice none 0 0, .slice none 0 0] 25)
  hg : W.heap.size < g
  lab : Rd V 1 A d.nn (strs d.names)
  lb : 0 < d.nn → ∀ a, A = some a → W.heap.size < a.block ∧ a.block < g
  cs : CS W p v vs
section
variable {W V : World} {p : Nat} {v : Value} {vs : List Value} {g : Nat} {d : ExD} {A : Option Addr} {c : Nat}
theorem StN.below (h : StN W p v vs g d A c V) {V' : World} (hb : Below V.heap.size V V') : StN W p v vs g d A c V' :=
  ⟨below_then h.b hb, (hb.block _ (lt_of_heap h.hd)).trans h.hd, (hb.block _ (lt_of_heap h.rs)).trans h.rs, h.hg, h.lab.below hb, h.lb, h.cs⟩
theorem StN.vlt (h : StN W p v vs g d A c V) (q : Nat) (hq : v.ownBlock = some q) : p + 1 ≤ q ∧ q < W.heap.size := h.cs.own.lt q hq
theorem StN.pin_no (h : StN W p v vs g d A c V) (l : List Ex) (hf : ¬ (d.kind = 4 ∨ d.kind = 7)) : PiN W p v g (d.numD vs.length) A c vs l 0 [] (.slice none 0 0) v [] V := by
  have hd : d.numD vs.length = d := if_neg hf
  have hg := h.hg
  rw [hd]
  refine ⟨World.ownsRow_nil _ _ _ _, rfl, by rw [List.take_zero]; trivial, by rw [List.take_zero]; trivial, ?_, (fun y hy => by cases hy), (fun z hz => by cases hz), h.hd, h.rs, KW.of_below v h.b, h.hg, lt_of_heap h.cs.c, (fun q hq => by cases hq), ⟨fun e => by have := (h.vlt _ e).2; omega, fun e => by have := (h.vlt _ e).2; omega⟩, h.lab, fun hn a ha => ⟨(h.lb hn a ha).1, by have := (h.lb hn a ha).2; omega, (fun e => by cases e), fun e => by have := (h.vlt _ e.symm).2; have := (h.lb hn a ha).1; omega⟩⟩
  rw [List.map_nil, List.append_nil]
  exact h.cs.below h.b
theorem StN.pin_fn (h : StN W p v vs g d A c V) (l : List Ex) (hf : d.kind = 4 ∨ d.kind = 7) {q6 c6 : Nat} {w6 : World} (hown : w6.ownsRow (p + 1) 45 1 (.slice (some ⟨q6, 0, none⟩) (vs.length + 1) c6) (vs.length + 1) (vs ++ [.pointer none])) (hgr : V.grownBy w6 v.ownBlock) (hat : (Value.slice (some ⟨q6, 0, none⟩) (vs.length + 1) c6).ownBlock = v.ownBlock ∨ (Value.slice (some ⟨q6, 0, none⟩) (vs.length + 1) c6).ownBlock = some V.heap.size) (N : Int) (hN : N = (vs.length : Int) + 1) :
    PiN W p v g (d.numD vs.length) A c (vs ++ [.pointer none]) l 0 [] (.slice none 0 0) (.slice (some ⟨q6, 0, none⟩) (vs.length + 1) c6) [] ((w6.setCell ⟨p, 0, none⟩ (.slice (some ⟨q6, 0, none⟩) (vs.length + 1) c6)).setCell ⟨g, 1, none⟩ (.int .i64 N)) := by
  have hd : d.numD vs.length = { d with n := (vs.length : Int) + 1 } := by unfold ExD.numD; rw [if_pos hf]; simp
  have hg := h.hg
  have hp : p < W.heap.size := lt_of_heap h.cs.c
  have hsz := h.b.size
  have hgV := lt_of_heap h.hd
  have hq6 : (Value.slice (some ⟨q6, 0, none⟩) (vs.length + 1) c6).ownBlock = some q6 := rfl
  have hqp := (hown.lt q6 hq6).1
  have hq : q6 < W.heap.size ∨ q6 = V.heap.size := by
    rcases hat with e | e
    · rw [hq6] at e; exact .inl (h.vlt _ e.symm).2
    · rw [hq6] at e; injection e with e; exact .inr e
  have k1 : ∀ b, b ≠ p → b ≠ g → ((w6.setCell ⟨p, 0, none⟩ (.slice (some ⟨q6, 0, none⟩) (vs.length + 1) c6)).setCell ⟨g, 1, none⟩ (.int .i64 N)).heap[b]? = w6.heap[b]? := fun b h1 h2 => (Below.heap_setCell _ ⟨g, 1, none⟩ _ b h2).trans (Below.heap_setCell w6 ⟨p, 0, none⟩ _ b h1)
  have k2 : ∀ b, b < V.heap.size → b ≠ p → b ≠ g → some b ≠ v.ownBlock → ((w6.setCell ⟨p, 0, none⟩ (.slice (some ⟨q6, 0, none⟩) (vs.length + 1) c6)).setCell ⟨g, 1, none⟩ (.int .i64 N)).heap[b]? = V.heap[b]? := fun b h0 h1 h2 h3 => (k1 b h1 h2).trans (hgr.block b h0 h3)
  have hvg : some g ≠ v.ownBlock := fun e => by have := (h.vlt _ e.symm).2; omega
  have hvW : some W.heap.size ≠ v.ownBlock := fun e => by have := (h.vlt _ e.symm).2; omega
  have hvp : some p ≠ v.ownBlock := fun e => by have := (h.vlt _ e.symm).1; omega
  have hg6 : w6.heap[g]? = some (.cells #[.int .i64 d.kind, .int .i64 d.n, .string (bstr d.s), .string (bstr d.t), .slice A d.nn c, .slice none 0 0] 25) := (hgr.block g hgV hvg).trans h.hd
  have hp6 : w6.heap[p]? = some (.cells #[v] 49) := (hgr.block p (by omega) hvp).trans (((h.b.block p hp)).trans h.cs.c)
  have hpg : p ≠ g := by omega
  rw [hd, hN]
  rw [hN] at k1 k2
  refine ⟨World.ownsRow_nil _ _ _ _, rfl, by rw [List.take_zero]; trivial, by rw [List.take_zero]; trivial, ⟨?_, ?_⟩, (fun y hy => by cases hy), (fun z hz => by cases hz), ?_, (k2 _ (lt_of_heap h.rs) (by omega) (by omega) hvW).trans h.rs, ⟨hgr.os.trans h.b.os, hgr.tape.trans h.b.tape, hgr.output.trans h.b.output, by rw [World.size_setCell, World.size_setCell]; exact Nat.le_trans hsz hgr.size, fun b h1 h2 h3 => (k2 b (by omega) h2 (by omega) h3).trans (h.b.block b h1), ?_⟩, hg, hp, (fun q hq => by cases hq), ⟨fun e => ?_, fun e => ?_⟩, ?_, fun hn a ha => ?_⟩
  · refine (Below.heap_setCell _ ⟨g, 1, none⟩ _ p hpg).trans ?_
    simp [World.setCell, Array.getElem?_modify, hp6]
  · rw [List.map_nil, List.append_nil]
    rw [show (vs ++ [Value.pointer none]).length = vs.length + 1 from by simp]
    exact own_keep hown (fun q hq hl => k1 q (fun e => by rw [hq6] at hq; injection hq with hq; omega) (fun e => by rw [hq6] at hq; injection hq with hq; omega))
  · have hh : (w6.setCell ⟨p, 0, none⟩ (.slice (some ⟨q6, 0, none⟩) (vs.length + 1) c6)).heap[g]? = some (.cells #[.int .i64 d.kind, .int .i64 d.n, .string (bstr d.s), .string (bstr d.t), .slice A d.nn c, .slice none 0 0] 25) := (Below.heap_setCell w6 ⟨p, 0, none⟩ _ g (Ne.symm hpg)).trans hg6
    generalize (w6.setCell ⟨p, 0, none⟩ (.slice (some ⟨q6, 0, none⟩) (vs.length + 1) c6)) = w7 at hh ⊢
    simp [World.setCell, Array.getElem?_modify, hh]
  · rcases hat with e | e
    · exact .inl e
    · exact .inr ⟨_, e, hsz⟩
  · rw [hq6] at e; injection e with e; omega
  · rw [hq6] at e; injection e with e; omega
  · exact rd_keepP (P := fun b => b ≠ p ∧ b ≠ g ∧ some b ≠ v.ownBlock) h.lab (fun hn a ha => ⟨by have := (h.lb hn a ha).1; omega, by have := (h.lb hn a ha).2; omega, fun e => by have := (h.vlt _ e.symm).2; have := (h.lb hn a ha).1; omega⟩) (fun b hb hl => k2 b hl hb.1 hb.2.1 hb.2.2)
  · have h1 := h.lb hn a ha
    exact ⟨h1.1, by omega, (fun e => by cases e), fun e => by rw [hq6] at e; injection e with e; omega⟩
end

theorem one_ptr : ∀ u ∈ (#[.pointer none] : Array Value).toList, u.oneCell' = true := by
  intro u hu
  simp at hu
  rw [hu]
  rfl
/-- What the append leaves: the closing's cell, the told cells' number. -/
theorem st_facts {W V w6 : World} {p : Nat} {v : Value} {vs : List Value} {g : Nat} {d : ExD} {A : Option Addr} {c : Nat} (h : StN W p v vs g d A c V) (hgr : V.grownBy w6 v.ownBlock) :
    w6.cell? ⟨p, 0, none⟩ = some v ∧ w6.frozen? ⟨p, 0, none⟩ = false ∧ w6.cell? ⟨g, 1, none⟩ = some (.int .i64 d.n) ∧ w6.frozen? ⟨g, 1, none⟩ = false := by
  have hp : p < W.heap.size := lt_of_heap h.cs.c
  have hsz := h.b.size
  have h1 := (hgr.block p (by omega) (fun e => by have := (h.vlt _ e.symm).1; omega)).trans ((h.b.block p hp).trans h.cs.c)
  have h2 := (hgr.block g (lt_of_heap h.hd) (fun e => by have := (h.vlt _ e.symm).2; have := h.hg; omega)).trans h.hd
  exact ⟨by rw [Lib.cell_of_heap h1]; rfl, Lib.frozen_of_heap h1 0, (cells6 h2).2.1, (frozen6 h2).2.1⟩

set_option maxRecDepth 100000 in
set_option maxHeartbeats 2000000 in
theorem numbered_any (w0 : World) (p : Nat) (hp : w0.heap.size ≤ p) (t : Ex) (hI : t.In w0) : ∀ (b o : Nat) (v : Value) (vs : List Value) (W : World), t.d.At w0 b o → Below w0.heap.size w0 W → CS W p v vs → vs.length + t.cnt ≤ 4000000 → Calls Try.prog 18 #[.pointer (some ⟨p, 0, none⟩), .pointer (some ⟨b, o, none⟩)] W (NmR t p v vs W) := by
  induction hI with
  | mk d l nam par cap sub ih =>
  intro b o v vs W hAt hb hcs hcnt
  have hI : (Ex.mk d l).In w0 := .mk d l nam par cap sub
  have hb1 : Below W.heap.size W (W.alloc (.cells #[.int .i64 0, .int .i64 0, .string ⟨#[]⟩, .string ⟨#[]⟩, .slice none 0 0, .slice none 0 0] 25)) := (Below.refl _ _).alloc (Nat.le_refl _) _
  have HS1 := Lib.hid (show (W.alloc (.cells #[.int .i64 0, .int .i64 0, .string ⟨#[]⟩, .string ⟨#[]⟩, .slice none 0 0, .slice none 0 0] 25)).heap.size = W.heap.size + 1 from World.size_alloc _ _)
  have HB1 := Lib.hid hb1
  have HR1 := Lib.hid (heap_alloc_new W (.cells #[.int .i64 0, .int .i64 0, .string ⟨#[]⟩, .string ⟨#[]⟩, .slice none 0 0, .slice none 0 0] 25))
  have HOW := Lib.hid (own_any w0 d l hI b o (W.alloc (.cells #[.int .i64 0, .int .i64 0, .string ⟨#[]⟩, .string ⟨#[]⟩, .slice none 0 0, .slice none 0 0] 25)) hAt (below_then hb hb1))
  have HE := Lib.hid (fun V (h : Below w0.heap.size w0 V) => (show d.At w0 b o from hAt).lower h)
  have HI := Lib.hid hI
  have HB := Lib.hid hb
  have HX := Lib.hid ih
  have HP := Lib.hid hp
  have HCS := Lib.hid hcs
  have HCN := Lib.hid (show vs.length + (d.f + cntL l) ≤ 4000000 from hcnt)
  have HV0 := Lib.hid (show ∀ q, v.ownBlock = some q → w0.heap.size ≤ q from fun q hq => by have := (hcs.own.lt q hq).1; omega)
  clear hI nam par cap sub ih hAt hb hb1 hcs hcnt hp
  obtain ⟨X, hX⟩ : ∃ X, X = Ex.mk d l := ⟨_, rfl⟩
  rw [← hX]
  have HEX := Lib.hid hX
  clear hX
  go_enter Try.func18, Try.ntmps18
  go_wp2_with fail
  refine HOW.out.mono ?_
  rintro e w2 ⟨A, c, rfl, hlab, hla, hc1, hc2, hb2⟩
  have hb3 : Below w2.heap.size w2 (w2.alloc (.cells #[.int .i64 d.kind, .int .i64 d.n, .string (bstr d.s), .string (bstr d.t), .slice A d.nn c, .slice none 0 0] 25)) := (Below.refl _ _).alloc (Nat.le_refl _) _
  have HST := Lib.hid (show StN W p v vs w2.heap.size d A c (w2.alloc (.cells #[.int .i64 d.kind, .int .i64 d.n, .string (bstr d.s), .string (bstr d.t), .slice A d.nn c, .slice none 0 0] 25)) from ⟨below_then (below_then HB1.out hb2) hb3, heap_alloc_new w2 _, ((below_then hb2 hb3).block _ (by rw [HS1.out]; omega)).trans HR1.out, by have := hb2.size; have := HS1.out; omega, hlab.below hb3, fun hn a ha => ⟨by have := hla hn a ha; have := HS1.out; omega, hlab.lt_ hn ha⟩, HCS.out⟩)
  have HCC := Lib.hid (And.intro hc1 hc2)
  clear hlab hla hc1 hc2 hb2 hb3 HOW HS1 HB1 HR1
  go_upto_region 2 with fail
  generalize (w2.alloc (.cells #[.int .i64 d.kind, .int .i64 d.n, .string (bstr d.s), .string (bstr d.t), .slice A d.nn c, .slice none 0 0] 25)) = w3 at *
  obtain ⟨g, hg⟩ : ∃ g, w2.heap.size = g := ⟨_, rfl⟩
  rw [hg] at HST ⊢
  clear hg
  have HIS := Lib.hid (isFunction_any d b o w3 (HE.out _ (below_then HB.out HST.out.b)))
  go_wp2_with fail
  refine HIS.out.mono ?_
  rintro e w3' ⟨rfl, e3⟩
  rw [e3]
  clear e3 w3' HIS
  by_cases hf : d.kind = 4 ∨ d.kind = 7
  · have hdt : decide (d.kind = 4 ∨ d.kind = 7) = true := decide_eq_true hf
    have HF := Lib.hid hf
    have hcp : w3.cell? ⟨p, 0, none⟩ = some v := by rw [Lib.cell_of_heap ((HST.out.b.block p (lt_of_heap HCS.out.c)).trans HCS.out.c)]; rfl
    obtain ⟨A0, c0, rfl, _⟩ := own_cap HCS.out.own
    have HC3 := Lib.hid (show CS w3 p (.slice A0 vs.length c0) vs from HCS.out.below HST.out.b)
    have HVS := Lib.hid (show vs ++ [.pointer none] = vs ++ (if d.kind = 4 ∨ d.kind = 7 then [.pointer none] else []) from by rw [if_pos hf])
    have hvl : vs.length ≤ 4000000 := by have := HCN.out; omega
    have HCM := Lib.hid (show (vs ++ [Value.pointer none]).length + cntL l ≤ 4000000 from by
      have h1 := HCN.out
      rw [show d.f = 1 from if_pos hf] at h1
      rw [List.length_append]
      show vs.length + 1 + cntL l ≤ 4000000
      omega)
    have hps : p + 1 ≤ w3.heap.size := lt_of_heap HC3.out.c
    have hfp : w3.frozen? ⟨p, 0, none⟩ = false := Lib.frozen_of_heap HC3.out.c 0
    have HST4 := Lib.hid (show StN W p (.slice A0 vs.length c0) vs g d A c (w3.alloc (.cells #[.pointer none] 45)) from HST.out.below ((Below.refl _ _).alloc (Nat.le_refl _) _))
    clear hf
    go_upto_region 5 with (at_builtin; refine wpList_app elPtr _ rfl (.tmp 15) (.tmp 16) rfl (p + 1) (.slice A0 vs.length c0) vs.length vs rfl (HC3.out.own.alloc _) (some ⟨w3.heap.size, 0, none⟩) 1 1 _ rfl (Rd.lit w3 _ _ rfl) one_ptr (by omega) (by rw [World.size_alloc]; omega) ?_; intro v6 w6 hown6 hb6 hg6 ho6; obtain ⟨q6, c6, hv6⟩ := own_some1 hown6; rw [hv6] at hown6 ho6 ⊢; clear hv6; obtain ⟨f6, f7, f8, f9⟩ := st_facts HST4.out hg6; have H6 := Lib.hid (And.intro hown6 (And.intro hg6 ho6)); clear hown6 hb6 hg6 ho6 hfp hcp)
    clear f6 f7 f8 f9
    exact num_loop w0 W _ p b o g c A d l (.slice A0 vs.length c0) _ vs _ X HEX.out HI.out (HE.out _ (Below.refl _ _)) ⟨HB.out, HP.out⟩ HV0.out HX.out (HST4.out.pin_fn l HF.out H6.out.1 H6.out.2.1 H6.out.2.2 _ rfl) HVS.out HCM.out HCC.out (by assumption) (by assumption)
  · have hdt : decide (d.kind = 4 ∨ d.kind = 7) = false := decide_eq_false hf
    have HPI := Lib.hid (HST.out.pin_no l hf)
    have HVS := Lib.hid (show vs = vs ++ (if d.kind = 4 ∨ d.kind = 7 then [.pointer none] else []) from by rw [if_neg hf, List.append_nil])
    have HCM := Lib.hid (show vs.length + cntL l ≤ 4000000 from by have := HCN.out; omega)
    clear hf
    go_upto_region 5 with fail
    exact num_loop w0 W w3 p b o g c A d l v v vs vs X HEX.out HI.out (HE.out _ (Below.refl _ _)) ⟨HB.out, HP.out⟩ HV0.out HX.out HPI.out HVS.out HCM.out HCC.out (by assumption) (by assumption)
end Go.Proofs.Ytpnihimoekkepaa
