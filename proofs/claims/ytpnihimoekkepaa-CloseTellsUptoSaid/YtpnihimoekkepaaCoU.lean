/-
  Numbers given to an expression's functions, by the code: behind the parts.
-/
import Derived.Test.YtpnihimoekkepaaCoT
namespace Go.Proofs.Ytpnihimoekkepaa
open Go.ChangeShapes Go.WideShapes Go.ChangeAt Go.RowKit Go.Sort
set_option linter.unusedVariables false
set_option linter.unusedSimpArgs false

theorem nmr_drew {t : Ex} {p : Nat} {v0 : Value} {vs0 : List Value} {W V : World} {e : Ending} {i : Nat} {a : Option Obj} (h : V.heap[i]? = a ∧ NmR t p v0 vs0 W e V) : V.drew.heap[i]? = a ∧ NmR t p v0 vs0 W e V.drew := by
  obtain ⟨y, v, zs, he, hy, heq, hcs, hz, hze, hkw⟩ := h.2
  exact ⟨h.1, y, v, zs, he, hy.keep (fun _ _ _ => rfl), heq, hcs.below (below_drew1 V), fun z hzm => (hz z hzm).keep (fun _ _ _ => rfl), hze, hkw.trans (KW.of_below v (below_drew1 V))⟩
theorem own_some1 {w : World} {base n : Nat} {e : TypeId} {size : Nat} {v : Value} {xs : List Value} (h : w.ownsRow base e size v (n + 1) xs) : ∃ q cap, v = .slice (some ⟨q, 0, none⟩) (n + 1) cap := by
  rcases h.2 with ⟨_, e⟩ | ⟨g, cap, cur, hv, _⟩
  · omega
  · exact ⟨g, cap, hv⟩

set_option maxRecDepth 100000 in
set_option maxHeartbeats 2000000 in
theorem num_exit {u2 u3 u6 u7 u8 u9 u10 u11 u12 u13 u14 u15 u16 u17 u18 u19 u20 u21 u22 u23 u24 u25 u26 u27 u28 u29 u30 u31 u32 u33 u34 u35 u36 u37 u38 u39 u40 u41 u42 u43 u44 u45 u46 u47 u48 u49 u50 u51 u52 u53 u54 u55 u56 u57 u58 u59 u60 : Value} (w0 W wr : World) (p b o g c : Nat) (A A1 : Option Addr) (k1 : Nat) (d : ExD) (l ys : List Ex) (v0 v : Value) (vs0 vs1 : List Value) (zs : List (Nat × Ex)) (X : Ex) (eX : X = .mk d l)
    (hI : (Ex.mk d l).In w0) (hAt : d.At w0 b o) (hb : Below w0.heap.size w0 wr) (hg0 : w0.heap.size ≤ p)
    (h : PiN W p v0 g (d.numD vs0.length) A c vs1 l d.pn ys (.slice A1 d.pn k1) v zs wr) (hvs : vs1 = vs0 ++ (if d.kind = 4 ∨ d.kind = 7 then [.pointer none] else [])) (hcnt : vs1.length + cntL l ≤ 4000000) (hcc : d.nn ≤ c ∧ c ≤ maxLen) :
    Code.wp Try.prog (tlG 4) (bodyPost Try.prog Try.f18 (NmR X p v0 vs0 W)) ⟨#[.pointer (some ⟨p, 0, none⟩), .pointer (some ⟨b, o, none⟩), u2, u3, .pointer (some ⟨W.heap.size, 0, none⟩), .pointer (some ⟨g, 0, none⟩), u6, u7, u8, u9, u10, u11, u12, u13, u14, u15, u16, u17, u18, u19, u20, u21, u22, u23, u24, u25, u26, u27, u28, u29, u30, u31, u32, u33, u34, u35, u36, u37, u38, u39, u40, u41, u42, u43, u44, u45, u46, u47, u48, u49, u50, u51, u52, u53, u54, u55, u56, u57, u58, u59, u60], []⟩ wr := by
  have hL : l.length = d.pn := hI.len
  have hcp : (d.nn ≤ d.nc ∧ d.nc ≤ maxLen ∧ d.nn ≤ 4000000) ∧ (d.pn ≤ d.pc ∧ d.pc ≤ maxLen ∧ d.pn ≤ 4000000) ∧ d.s.length ≤ 4000000 ∧ d.t.length ≤ 4000000 ∧ ∀ s ∈ d.names, s.length ≤ 4000000 := hI.cap
  have hcn : (vs1 ++ zs.map ptr).length ≤ 4000000 := by
    have h1 := h.cnt
    rw [List.take_of_length_le (by omega)] at h1
    omega
  rw [← hL] at h
  have HEX := Lib.hid eX
  have HIS := Lib.hid (isFunction_any d b o wr ((show d.At w0 b o from hAt).lower hb))
  obtain ⟨t0, t1, t2, t3, t4, t5⟩ := cells6 h.hd
  obtain ⟨r0, r1, r2, r3, r4, r5⟩ := cells6 h.rs
  obtain ⟨z0, z1, z2, z3, z4, z5⟩ := frozen6 h.rs
  have HNN := Lib.hid (show (d.numD vs0.length).nn ≤ c ∧ c ≤ maxLen from by unfold ExD.numD; split <;> exact hcc)
  have HCQ := Lib.hid (show (d.numD vs0.length).nn ≤ 4000000 ∧ l.length ≤ 4000000 ∧ (d.numD vs0.length).s.length ≤ 4000000 ∧ (d.numD vs0.length).t.length ≤ 4000000 ∧ ∀ s ∈ (d.numD vs0.length).names, s.length ≤ 4000000 from by
    have h1 : l.length ≤ 4000000 := by omega
    unfold ExD.numD
    split <;> exact ⟨hcp.1.2.2, h1, hcp.2.2.1, hcp.2.2.2.1, hcp.2.2.2.2⟩)
  clear eX hI hAt hb hg0 hcc hcp hL
  conv => arg 2; whnf
  by_cases hf : d.kind = 4 ∨ d.kind = 7
  · rw [if_pos hf] at hvs
    subst hvs
    rw [decide_eq_true hf] at HIS
    have hvv : ∃ q n cap, v = .slice (some ⟨q, 0, none⟩) n cap ∧ n = ((vs0 ++ [Value.pointer none]) ++ zs.map ptr).length := by
      have h1 := h.cs.own
      have h2 : ((vs0 ++ [Value.pointer none]) ++ zs.map ptr).length = (vs0.length + zs.length) + 1 := by simp; omega
      rw [h2] at h1
      obtain ⟨q, cap, hv⟩ := own_some1 h1
      exact ⟨q, _, cap, hv, h2.symm⟩
    obtain ⟨q, n, cap, rfl, hn⟩ := hvv
    have hn0 : vs0.length < n := by rw [hn]; simp
    have hn4 : n ≤ 4000000 := by rw [hn]; exact hcn
    have HEN := Lib.hid (h.end_fn hf HNN.out HCQ.out)
    have hdn : (d.numD vs0.length).n = (vs0.length : Int) + 1 := by unfold ExD.numD; rw [if_pos hf]; simp
    obtain ⟨hqf, hqc⟩ : wr.frozen? ⟨q, vs0.length, none⟩ = false ∧ wr.cell? ⟨q, vs0.length, none⟩ = some (.pointer none) := by
      rcases h.cs.own.2 with ⟨e, _⟩ | ⟨q', cap', cur, hv, hg', hh, _, _, _, hcur⟩
      · cases e
      · injection hv with e1 _ _
        injection e1 with e1
        injection e1 with e1
        subst e1
        refine ⟨Lib.frozen_of_heap hh _, ?_⟩
        rw [Lib.cell_of_heap hh, ← Array.getElem?_toList]
        have h5 : (cur.toList.take (((vs0 ++ [Value.pointer none]) ++ zs.map ptr).length * 1))[vs0.length]? = some (.pointer none) := by
          rw [hcur]
          simp
        rw [List.getElem?_take_of_lt (by rw [← hn]; omega)] at h5
        exact h5
    have hqg : g ≠ q := fun e => h.gv.1 (by rw [e]; rfl)
    have hqw : W.heap.size ≠ q := fun e => h.gv.2 (by rw [e]; rfl)
    obtain ⟨dd, hdd⟩ : ∃ dd, d.numD vs0.length = dd := ⟨_, rfl⟩
    rw [hdd] at HEN hdn t0 t1 t2 t3 t4
    have HN := Lib.hid (show ((((((((wr.setCell ⟨q, vs0.length, none⟩ (.pointer (some ⟨g, 0, none⟩))).setCell ⟨W.heap.size, 0, none⟩ (.int .i64 dd.kind)).setCell ⟨W.heap.size, 1, none⟩ (.int .i64 ((vs0.length : Int) + 1))).setCell ⟨W.heap.size, 2, none⟩ (.string (bstr dd.s))).setCell ⟨W.heap.size, 3, none⟩ (.string (bstr dd.t))).setCell ⟨W.heap.size, 4, none⟩ (.slice A dd.nn c)).setCell ⟨W.heap.size, 5, none⟩ (.slice A1 l.length k1)).drew).heap[W.heap.size]? = some (.cells #[.int .i64 dd.kind, .int .i64 ((vs0.length : Int) + 1), .string (bstr dd.s), .string (bstr dd.t), .slice A dd.nn c, .slice A1 l.length k1] 25) ∧ NmR (.mk d l) p v0 vs0 W (.returned (.agg (#[.int .i64 dd.kind, .int .i64 ((vs0.length : Int) + 1), .string (bstr dd.s), .string (bstr dd.t), .slice A dd.nn c, .slice A1 l.length k1] : Array Value))) ((((((((wr.setCell ⟨q, vs0.length, none⟩ (.pointer (some ⟨g, 0, none⟩))).setCell ⟨W.heap.size, 0, none⟩ (.int .i64 dd.kind)).setCell ⟨W.heap.size, 1, none⟩ (.int .i64 ((vs0.length : Int) + 1))).setCell ⟨W.heap.size, 2, none⟩ (.string (bstr dd.s))).setCell ⟨W.heap.size, 3, none⟩ (.string (bstr dd.t))).setCell ⟨W.heap.size, 4, none⟩ (.slice A dd.nn c)).setCell ⟨W.heap.size, 5, none⟩ (.slice A1 l.length k1)).drew) from by
      have h9 := nmr_drew (HEN.out.put (.int .i64 dd.kind) (.int .i64 ((vs0.length : Int) + 1)) (.string (bstr dd.s)) (.string (bstr dd.t)) (.slice A dd.nn c) (.slice A1 l.length k1))
      rw [show (ToldE dd A c l.length A1 k1 ys).d.arr = (#[.int .i64 dd.kind, .int .i64 ((vs0.length : Int) + 1), .string (bstr dd.s), .string (bstr dd.t), .slice A dd.nn c, .slice A1 l.length k1] : Array Value) from by show (#[.int .i64 dd.kind, .int .i64 dd.n, .string (bstr dd.s), .string (bstr dd.t), .slice A dd.nn c, .slice A1 l.length k1] : Array Value) = (#[.int .i64 dd.kind, .int .i64 ((vs0.length : Int) + 1), .string (bstr dd.s), .string (bstr dd.t), .slice A dd.nn c, .slice A1 l.length k1] : Array Value); rw [hdn]] at h9
      exact h9)
    have hcl : wr.cell? ⟨p, 0, none⟩ = some (.slice (some ⟨q, 0, none⟩) n cap) := by rw [Lib.cell_of_heap h.cs.c]; rfl
    have hk : ∀ b i u, b ≠ q → wr.cell? ⟨b, i, none⟩ = some u → (wr.setCell ⟨q, vs0.length, none⟩ (.pointer (some ⟨g, 0, none⟩))).cell? ⟨b, i, none⟩ = some u := fun b i u hb hc => by
      unfold World.cell? at hc ⊢
      rw [Below.heap_setCell wr ⟨q, vs0.length, none⟩ _ b hb]
      exact hc
    have s0 := hk g 0 _ hqg t0
    have s1 := hk g 1 _ hqg t1
    have s2 := hk g 2 _ hqg t2
    have s3 := hk g 3 _ hqg t3
    have s4 := hk g 4 _ hqg t4
    have s5 := hk g 5 _ hqg t5
    have y0 := hk W.heap.size 0 _ hqw r0
    clear h HNN HCQ hdd hk hn hcn hcnt HEN
    have hm0 : (0 : Int) ≤ (vs0.length : Int) := by omega
    have hm1 : (vs0.length : Int) < (n : Int) := by omega
    have hm2 : (vs0.length : Int) ≤ 4000000 := by omega
    have hm3 : (n : Int) ≤ 4000000 := by omega
    go_wp2_with fail
    refine HIS.out.mono ?_
    rintro e w1 ⟨rfl, e1⟩
    rw [e1]
    clear e1 w1 HIS
    rw [hdn] at t1
    go_upto_region 11 with fail
    go_region
    all_goals
      go_wp2_with fail
      clear r0 r1 r2 r3 r4 r5 z0 z1 z2 z3 z4 z5
      generalize ((((((((wr.setCell ⟨q, vs0.length, none⟩ (.pointer (some ⟨g, 0, none⟩))).setCell ⟨W.heap.size, 0, none⟩ (.int .i64 dd.kind)).setCell ⟨W.heap.size, 1, none⟩ (.int .i64 ((vs0.length : Int) + 1))).setCell ⟨W.heap.size, 2, none⟩ (.string (bstr dd.s))).setCell ⟨W.heap.size, 3, none⟩ (.string (bstr dd.t))).setCell ⟨W.heap.size, 4, none⟩ (.slice A dd.nn c)).setCell ⟨W.heap.size, 5, none⟩ (.slice A1 l.length k1)).drew) = w7 at *
      obtain ⟨e0, e1, e2, e3, e4, e5⟩ := cells6 HN.out.1
      refine bodyPost_ret (by simp [results, Try.results18, go_sem, e0, e1, e2, e3, e4, e5]; try rfl) rfl ?_
      rw [HEX.out]
      exact HN.out.2

  · rw [if_neg hf, List.append_nil] at hvs
    subst hvs
    rw [decide_eq_false hf] at HIS
    have HEN := Lib.hid (h.end_no hf HNN.out HCQ.out)
    obtain ⟨dd, hdd⟩ : ∃ dd, d.numD vs1.length = dd := ⟨_, rfl⟩
    rw [hdd] at HEN t0 t1 t2 t3 t4
    have HN := Lib.hid (show ((((((wr.setCell ⟨W.heap.size, 0, none⟩ (.int .i64 dd.kind)).setCell ⟨W.heap.size, 1, none⟩ (.int .i64 dd.n)).setCell ⟨W.heap.size, 2, none⟩ (.string (bstr dd.s))).setCell ⟨W.heap.size, 3, none⟩ (.string (bstr dd.t))).setCell ⟨W.heap.size, 4, none⟩ (.slice A dd.nn c)).setCell ⟨W.heap.size, 5, none⟩ (.slice A1 l.length k1)).heap[W.heap.size]? = some (.cells #[.int .i64 dd.kind, .int .i64 dd.n, .string (bstr dd.s), .string (bstr dd.t), .slice A dd.nn c, .slice A1 l.length k1] 25) ∧ NmR (.mk d l) p v0 vs1 W (.returned (.agg (ToldE dd A c l.length A1 k1 ys).d.arr)) ((((((wr.setCell ⟨W.heap.size, 0, none⟩ (.int .i64 dd.kind)).setCell ⟨W.heap.size, 1, none⟩ (.int .i64 dd.n)).setCell ⟨W.heap.size, 2, none⟩ (.string (bstr dd.s))).setCell ⟨W.heap.size, 3, none⟩ (.string (bstr dd.t))).setCell ⟨W.heap.size, 4, none⟩ (.slice A dd.nn c)).setCell ⟨W.heap.size, 5, none⟩ (.slice A1 l.length k1)) from HEN.out.put (.int .i64 dd.kind) (.int .i64 dd.n) (.string (bstr dd.s)) (.string (bstr dd.t)) (.slice A dd.nn c) (.slice A1 l.length k1))
    clear h HNN HCQ hdd hcn hcnt HEN
    go_wp2_with fail
    refine HIS.out.mono ?_
    rintro e w1 ⟨rfl, e1⟩
    rw [e1]
    clear e1 w1 HIS
    go_wp2_with fail
    clear r0 r1 r2 r3 r4 r5 z0 z1 z2 z3 z4 z5
    generalize (((((wr.setCell ⟨W.heap.size, 0, none⟩ (.int .i64 dd.kind)).setCell ⟨W.heap.size, 1, none⟩ (.int .i64 dd.n)).setCell ⟨W.heap.size, 2, none⟩ (.string (bstr dd.s))).setCell ⟨W.heap.size, 3, none⟩ (.string (bstr dd.t))).setCell ⟨W.heap.size, 4, none⟩ (.slice A dd.nn c)).setCell ⟨W.heap.size, 5, none⟩ (.slice A1 l.length k1) = w7 at *
    obtain ⟨e0, e1, e2, e3, e4, e5⟩ := cells6 HN.out.1
    refine bodyPost_ret (by simp [results, Try.results18, go_sem, e0, e1, e2, e3, e4, e5]; try rfl) rfl ?_
    rw [HEX.out]
    exact HN.out.2

end Go.Proofs.Ytpnihimoekkepaa
