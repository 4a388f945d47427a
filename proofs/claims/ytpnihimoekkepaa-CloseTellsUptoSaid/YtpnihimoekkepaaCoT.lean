/-
  Numbers given to an expression's functions, by the code: what stands when the parts are done.
-/
import Derived.Test.YtpnihimoekkepaaCoF
import Derived.Test.YtpnihimoekkepaaCoP
namespace Go.Proofs.Ytpnihimoekkepaa
open Go.ChangeShapes Go.WideShapes Go.ChangeAt Go.RowKit Go.Sort
set_option linter.unusedVariables false
set_option linter.unusedSimpArgs false

def dropSeqG : Nat → Code → Code
  | 0, c => c
  | n + 1, .seq _ b => dropSeqG n b
  | _ + 1, c => c
def headSeqG : Code → Code
  | .seq a _ => a
  | c => c
/-- The text from its n-th statement on; the n-th statement's first part; what follows in it. -/
noncomputable def tlG (n : Nat) : Code := dropSeqG n (Try.f18.body.getD .skip)
noncomputable def hcG (n : Nat) : Code := headSeqG (headSeqG (tlG n))
noncomputable def hbG (n : Nat) : Code := dropSeqG 1 (headSeqG (tlG n))

def PE (W : World) (v : Value) (b : Nat) : Prop := W.heap.size + 1 ≤ b ∧ some b ≠ v.ownBlock
/-- All is done but for the result's cells. -/
structure EndN (t : Ex) (p : Nat) (v0 : Value) (vs0 : List Value) (W : World) (y : Ex) (v : Value) (zs : List (Nat × Ex)) (V : World) : Prop where
  yin : YIn (PE W v) V y
  eqv : y.eqv (numE t vs0.length)
  cs : CS V p v (vs0 ++ zs.map ptr)
  zin : ∀ z ∈ zs, FnIn (PE W v) V z
  zeq : exL (zs.map Prod.snd) (fnsE t vs0.length)
  kw : KW p W v0 V v
  rs : V.heap[W.heap.size]? = some (.cells #[.int .i64 0, .int .i64 0, .string ⟨#[]⟩, .string ⟨#[]⟩, .slice none 0 0, .slice none 0 0] 25)
  hp : p < W.heap.size
  gv : v.ownBlock ≠ some W.heap.size
theorem EndN.keep {t : Ex} {p : Nat} {v0 : Value} {vs0 : List Value} {W : World} {y : Ex} {v : Value} {zs : List (Nat × Ex)} {V V' : World} (h : EndN t p v0 vs0 W y v zs V) (hk : ∀ b, b ≠ W.heap.size → V'.heap[b]? = V.heap[b]?) (ho : V'.os = V.os ∧ V'.tape = V.tape ∧ V'.output = V.output ∧ V'.heap.size = V.heap.size) :
    NmR t p v0 vs0 W (.returned (.agg y.d.arr)) V' := by
  have hp := h.hp
  refine ⟨y, v, zs, rfl, (h.yin.keep (fun b hb _ => hk b (by have := hb.1; omega))).imp (fun b hb _ => ⟨by have := hb.1; omega, hb.2⟩), h.eqv, h.cs.keep (fun b hb _ => hk b (fun e => ?_)), fun z hz => ((h.zin z hz).keep (fun b hb _ => hk b (by have := hb.1; omega))).imp (fun b hb _ => ⟨by have := hb.1; omega, hb.2⟩), h.zeq, ⟨ho.1.trans h.kw.os, ho.2.1.trans h.kw.tape, ho.2.2.1.trans h.kw.output, by rw [ho.2.2.2]; exact h.kw.size, fun b h1 h2 h3 => (hk b (by omega)).trans (h.kw.block b h1 h2 h3), h.kw.at_⟩⟩
  rcases hb with rfl | hb
  · omega
  · rw [e] at hb; exact h.gv hb
theorem EndN.put {t : Ex} {p : Nat} {v0 : Value} {vs0 : List Value} {W : World} {y : Ex} {v : Value} {zs : List (Nat × Ex)} {V : World} (h : EndN t p v0 vs0 W y v zs V) (a0 a1 a2 a3 a4 a5 : Value) :
    (put6 V W.heap.size a0 a1 a2 a3 a4 a5).heap[W.heap.size]? = some (.cells #[a0, a1, a2, a3, a4, a5] 25) ∧ NmR t p v0 vs0 W (.returned (.agg y.d.arr)) (put6 V W.heap.size a0 a1 a2 a3 a4 a5) :=
  have hb : Below 0 V (put6 V W.heap.size a0 a1 a2 a3 a4 a5) := put6_below (Below.refl _ _) (Nat.zero_le _) a0 a1 a2 a3 a4 a5
  ⟨put6_box V _ h.rs _ _ _ _ _ _, h.keep (fun b hb => put6_other V W.heap.size a0 a1 a2 a3 a4 a5 hb) ⟨hb.os, hb.tape, hb.output, by simp only [put6, World.size_setCell]⟩⟩
section
variable {W : World} {p : Nat} {v0 : Value} {g : Nat} {d : ExD} {A A1 : Option Addr} {c k1 : Nat} {vs0 vs1 : List Value} {l ys : List Ex} {v : Value} {zs : List (Nat × Ex)} {wr : World}
/-- The told expression. -/
abbrev ToldE (d : ExD) (A : Option Addr) (c k : Nat) (A1 : Option Addr) (k1 : Nat) (ys : List Ex) : Ex := .mk ⟨d.kind, d.n, d.s, d.t, A, d.nn, c, d.names, A1, k, k1⟩ ys
theorem PiN.told (h : PiN W p v0 g d A c vs1 l l.length ys (.slice A1 l.length k1) v zs wr) (hc : d.nn ≤ c ∧ c ≤ maxLen) (hcp : d.nn ≤ 4000000 ∧ l.length ≤ 4000000 ∧ d.s.length ≤ 4000000 ∧ d.t.length ≤ 4000000 ∧ ∀ s ∈ d.names, s.length ≤ 4000000) :
    FnIn (PE W v) wr (g, ToldE d A c l.length A1 k1 ys) ∧ (∀ z ∈ zs, FnIn (PE W v) wr z) := by
  have hg := h.hg
  obtain ⟨A2, k2, e2, hk1, hk2, _⟩ := own_cap h.own
  injection e2 with e3 _ e4
  subst e3
  subst e4
  have hx : ∀ b, PB g (.slice A1 l.length k1) v b → b < wr.heap.size → PE W v b := fun b hb _ => ⟨by have := hb.1; omega, hb.2.2⟩
  refine ⟨⟨⟨hg, fun e => h.gv.1 e.symm⟩, h.hd, ⟨.mk _ _ h.lab (Rd.of_own h.own) ⟨⟨hc.1, hc.2, hcp.1⟩, ⟨hk1, hk2, hcp.2.1⟩, hcp.2.2⟩ (fun y hy => (h.yin y hy).inn), .mk _ _ (fun hn a ha => ⟨(h.lb hn a ha).1, (h.lb hn a ha).2.2.2⟩) (fun hn a ha => ?_) (fun y hy => ((h.yin y hy).imp hx).bl)⟩⟩, fun z hz => (h.zin z hz).imp hx⟩
  have hq : (Value.slice A1 l.length k1).ownBlock = some a.block := by rw [show A1 = some a from ha]; rfl
  exact ⟨by have := (h.own.lt _ hq).1; omega, fun e => h.sep _ hq e.symm⟩
theorem told_eqv {d : ExD} {l : List Ex} {m : Nat} {A A1 : Option Addr} {c k1 : Nat} {ys : List Ex} (h : exL ys (numL l (m + d.f))) : (ToldE (d.numD m) A c l.length A1 k1 ys).eqv (numE (.mk d l) m) := by
  unfold numE Ex.eqv
  exact ⟨rfl, rfl, rfl, rfl, rfl, h⟩
theorem PiN.end_no (h : PiN W p v0 g (d.numD vs0.length) A c vs0 l l.length ys (.slice A1 l.length k1) v zs wr) (hf : ¬ (d.kind = 4 ∨ d.kind = 7)) (hc : (d.numD vs0.length).nn ≤ c ∧ c ≤ maxLen) (hcp : (d.numD vs0.length).nn ≤ 4000000 ∧ l.length ≤ 4000000 ∧ (d.numD vs0.length).s.length ≤ 4000000 ∧ (d.numD vs0.length).t.length ≤ 4000000 ∧ ∀ s ∈ (d.numD vs0.length).names, s.length ≤ 4000000) :
    EndN (.mk d l) p v0 vs0 W (ToldE (d.numD vs0.length) A c l.length A1 k1 ys) v zs wr := by
  obtain ⟨h1, h2⟩ := h.told hc hcp
  have h3 := h.eqv
  have h4 := h.zeq
  rw [List.take_length] at h3 h4
  have hd : d.f = 0 := if_neg hf
  refine ⟨h1.y, told_eqv (by rw [hd]; exact h3), h.cs, h2, ?_, h.kw, h.rs, h.hp, h.gv.2⟩
  unfold fnsE
  rw [if_neg hf, hd]
  exact h4
theorem PiN.end_fn {q n cap : Nat} (h : PiN W p v0 g (d.numD vs0.length) A c (vs0 ++ [.pointer none]) l l.length ys (.slice A1 l.length k1) (.slice (some ⟨q, 0, none⟩) n cap) zs wr) (hf : d.kind = 4 ∨ d.kind = 7) (hc : (d.numD vs0.length).nn ≤ c ∧ c ≤ maxLen) (hcp : (d.numD vs0.length).nn ≤ 4000000 ∧ l.length ≤ 4000000 ∧ (d.numD vs0.length).s.length ≤ 4000000 ∧ (d.numD vs0.length).t.length ≤ 4000000 ∧ ∀ s ∈ (d.numD vs0.length).names, s.length ≤ 4000000) :
    EndN (.mk d l) p v0 vs0 W (ToldE (d.numD vs0.length) A c l.length A1 k1 ys) (.slice (some ⟨q, 0, none⟩) n cap) ((g, ToldE (d.numD vs0.length) A c l.length A1 k1 ys) :: zs) (wr.setCell ⟨q, vs0.length, none⟩ (.pointer (some ⟨g, 0, none⟩))) := by
  obtain ⟨h1, h2⟩ := h.told hc hcp
  have h3 := h.eqv
  have h4 := h.zeq
  rw [List.take_length] at h3 h4
  have hd : d.f = 1 := if_pos hf
  have hw : (vs0 ++ [Value.pointer none]).length = vs0.length + 1 := by simp
  rw [hw] at h3 h4
  have hp := h.hp
  have hq : (Value.slice (some ⟨q, 0, none⟩) n cap).ownBlock = some q := rfl
  have hpq := (h.cs.own.lt q hq).1
  have hqW : q ≠ W.heap.size := fun e => h.gv.2 (by rw [hq, e])
  have hk : ∀ b, b ≠ q → (wr.setCell ⟨q, vs0.length, none⟩ (.pointer (some ⟨g, 0, none⟩))).heap[b]? = wr.heap[b]? := fun b hb => Below.heap_setCell wr ⟨q, vs0.length, none⟩ _ b hb
  have hz : ∀ b, PE W (.slice (some ⟨q, 0, none⟩) n cap) b → b < wr.heap.size → (wr.setCell ⟨q, vs0.length, none⟩ (.pointer (some ⟨g, 0, none⟩))).heap[b]? = wr.heap[b]? := fun b hb _ => hk b (fun e => hb.2 (by rw [e]; rfl))
  have hn : n = ((vs0 ++ [Value.pointer none]) ++ zs.map ptr).length := by
    obtain ⟨_, _, e2, _⟩ := own_cap h.cs.own
    injection e2
  refine ⟨h1.y.keep hz, told_eqv (by rw [hd]; exact h3), ⟨(hk p (by omega)).trans h.cs.c, ?_⟩, fun z hzm => ?_, ?_, ⟨h.kw.os, h.kw.tape, h.kw.output, by rw [World.size_setCell]; exact h.kw.size, fun b b1 b2 b3 => (hk b (fun e => ?_)).trans (h.kw.block b b1 b2 b3), h.kw.at_⟩, (hk _ (fun e => hqW e.symm)).trans h.rs, h.hp, h.gv.2⟩
  · have hs := own_set (n := n) (xs := (vs0 ++ [Value.pointer none]) ++ zs.map ptr) (by have := h.cs.own; rw [← hn] at this; exact this) vs0.length (by rw [hn]; simp) (.pointer (some ⟨g, 0, none⟩))
    have hl : ((vs0 ++ [Value.pointer none]) ++ zs.map ptr).set vs0.length (.pointer (some ⟨g, 0, none⟩)) = vs0 ++ (((g, ToldE (d.numD vs0.length) A c l.length A1 k1 ys) :: zs).map ptr) := by
      rw [List.append_assoc, List.set_append_right _ _ (Nat.le_refl _)]
      simp [ptr]
    rw [hl, hn] at hs
    have hlen : ((vs0 ++ [Value.pointer none]) ++ zs.map ptr).length = (vs0 ++ (((g, ToldE (d.numD vs0.length) A c l.length A1 k1 ys) :: zs).map ptr)).length := by simp
    rw [hlen] at hs
    rw [hn, hlen]
    exact hs
  · rcases List.mem_cons.1 hzm with rfl | hm
    · exact h1.keep hz
    · exact (h2 z hm).keep hz
  · unfold fnsE
    rw [if_pos hf, hd, List.map_cons]
    exact exL_app (a := [_]) (c := zs.map Prod.snd) ⟨told_eqv (by rw [hd]; exact h3), trivial⟩ h4
  · rcases h.kw.at_ with k | ⟨k, hk', hl⟩
    · exact b3 (by rw [← k, e]; rfl)
    · rw [hq] at hk'; injection hk' with hk'; omega
end
end Go.Proofs.Ytpnihimoekkepaa
