/-
  The functions of an expression, by the code: what the list holds, as far as it has come.
-/
import Derived.Test.YtpnihimoekkepaaCoV
import Derived.Test.YtpnihimoekkepaaCoS
import Derived.Test.YtpnihimoekkepaaCoL
namespace Go.Proofs.Ytpnihimoekkepaa
open Go.ChangeShapes Go.WideShapes Go.ChangeAt Go.RowKit Go.Sort Go.Maps
set_option linter.unusedVariables false
set_option linter.unusedSimpArgs false

def Fu.cells (f : Fu) : List Value := [.string (bstr f.s), .string (bstr f.t), .slice f.A f.n f.c, .int .i64 f.y.d.kind, .int .i64 f.y.d.n, .string (bstr f.y.d.s), .string (bstr f.y.d.t), .slice f.y.d.nA f.y.d.nn f.y.d.nc, .slice f.y.d.pA f.y.d.pn f.y.d.pc]
theorem fu_ones (f : Fu) : ∀ u ∈ f.cells, u.oneCell' = true := by
  intro u hu
  unfold Fu.cells at hu
  simp only [List.mem_cons, List.not_mem_nil, or_false] at hu
  rcases hu with rfl | rfl | rfl | rfl | rfl | rfl | rfl | rfl | rfl <;> rfl
theorem elFun : ElemTy Try.prog 28 37 (.agg #[.string ⟨#[]⟩, .string ⟨#[]⟩, .slice none 0 0, .int .i64 0, .int .i64 0, .string ⟨#[]⟩, .string ⟨#[]⟩, .slice none 0 0, .slice none 0 0]) 9 152 :=
  ⟨Try.underlying28, by kernel_rfl, rfl, by omega, by omega⟩
/-- A function by itself, of the tree that it was. -/
structure FunP (z : Ex) (f : Fu) : Prop where
  s : f.s = (if z.d.kind = 4 then [] else z.d.s)
  t : f.t = (if z.d.kind = 4 then z.d.s else z.d.t)
  y : f.y.eqv (partOf z)
  caps : CapsOk z f.caps
theorem Fu.In.keepP {w w' : World} {f : Fu} {P : Nat → Prop} (h : f.In w) (hb : f.Bl P) (hk : ∀ b, P b → b < w.heap.size → w'.heap[b]? = w.heap[b]?) : f.In w' :=
  ⟨rd_keepP h.caps hb.caps hk, h.small, h.y.keepP hb.y hk⟩
theorem Fu.Bl.imp {w : World} {f : Fu} {P Q : Nat → Prop} (hb : f.Bl P) (h : f.In w) (hq : ∀ b, P b → b < w.heap.size → Q b) : f.Bl Q :=
  ⟨fun hn a ha => hq _ (hb.caps hn a ha) (h.caps.lt_ hn ha), hb.y.imp h.y hq⟩
/-- The list, as far as it has come: base B is the world's size where it began. -/
structure ClS (B : Nat) (w6 : World) (zs : List (Nat × Ex)) (f0 : Fu) (k : Nat) (fs : List Fu) (rv : Value) (wr : World) : Prop where
  own : wr.ownsRow B 37 9 rv (k + 1) ((f0 :: fs).flatMap Fu.cells)
  b : Below B w6 wr
  bs : B = w6.heap.size
  len : fs.length = k
  inn : ∀ f ∈ fs, f.In wr
  bl : ∀ f ∈ fs, f.Bl (fun b => some b ≠ rv.ownBlock)
  fp : ∀ (i : Nat) (z : Nat × Ex) (f : Fu), zs[i]? = some z → fs[i]? = some f → FunP z.2 f
theorem own_lit (w : World) (e : TypeId) {size : Nat} (cs : Array Value) (hs : cs.size = size) : (w.alloc (.cells cs e)).ownsRow w.heap.size e size (.slice (some ⟨w.heap.size, 0, none⟩) 1 1) 1 cs.toList :=
  ⟨by simp [hs], .inr ⟨w.heap.size, 1, cs, rfl, Nat.le_refl _, heap_alloc_new w _, Nat.le_refl _, by simp [maxLen], by simp [hs], by rw [List.take_of_length_le]; simp [hs]⟩⟩
theorem ClS.start (w6 : World) (zs : List (Nat × Ex)) (f0 : Fu) : ClS w6.heap.size w6 zs f0 0 [] (.slice (some ⟨w6.heap.size, 0, none⟩) 1 1) (w6.alloc (.cells f0.arr 37)) :=
  ⟨own_lit w6 _ f0.arr rfl, (Below.refl _ _).alloc (Nat.le_refl _) _, rfl, rfl, (fun f hf => by cases hf), (fun f hf => by cases hf), (fun i z f _ hf => by simp at hf)⟩
theorem ClS.step {B : Nat} {w6 : World} {zs : List (Nat × Ex)} {f0 : Fu} {k : Nat} {fs : List Fu} {rv : Value} {wr : World} (h : ClS B w6 zs f0 k fs rv wr) {z : Nat × Ex} (hz : zs[k]? = some z) {f : Fu} {w7 w9 : World} {v9 : Value} (hf : f.In w7) (hfb : f.Bl (fun b => wr.heap.size ≤ b)) (hp : FunP z.2 f) (hb7 : Below wr.heap.size wr w7)
    (hown : w9.ownsRow B 37 9 v9 (k + 1 + 1) ((f0 :: fs).flatMap Fu.cells ++ f.arr.toList)) (hb9 : Below B (w7.alloc (.cells f.arr 37)) w9) (hgr : (w7.alloc (.cells f.arr 37)).grownBy w9 rv.ownBlock) (hat : v9.ownBlock = rv.ownBlock ∨ v9.ownBlock = some (w7.alloc (.cells f.arr 37)).heap.size) :
    ClS B w6 zs f0 (k + 1) (fs ++ [f]) v9 w9 := by
  have h8 : Below w7.heap.size w7 (w7.alloc (.cells f.arr 37)) := (Below.refl _ _).alloc (Nat.le_refl _) _
  have hs8 : (w7.alloc (.cells f.arr 37)).heap.size = w7.heap.size + 1 := World.size_alloc _ _
  have hrv : ∀ q, rv.ownBlock = some q → B ≤ q ∧ q < wr.heap.size := fun q hq => h.own.lt q hq
  generalize hw8 : (w7.alloc (.cells f.arr 37)) = w8 at *
  have hs7 := hb7.size
  have hB : B ≤ wr.heap.size := by have := h.b.size; have := h.bs; omega
  have hno : ∀ b, b < w8.heap.size → some b ≠ rv.ownBlock → some b ≠ v9.ownBlock := fun b h1 h2 => by
    rcases hat with q | q
    · rw [q]; exact h2
    · rw [q]; intro e; injection e with e; omega
  refine ⟨?_, ?_, h.bs, by rw [List.length_append, h.len]; rfl, fun x hx => ?_, fun x hx => ?_, fun i z' f' h1 h2 => ?_⟩
  · have e1 : List.flatMap Fu.cells [f] = f.arr.toList := by simp [Fu.cells]
    rw [← List.cons_append, List.flatMap_append, e1]
    exact hown
  · exact (h.b.trans ((hb7.mono hB).trans (h8.mono (by omega)))).trans hb9
  · rcases List.mem_append.1 hx with q | q
    · exact ((h.inn x q).lower (below_then hb7 h8)).keepP ((h.bl x q)) (fun b hb hl => hgr.block b hl hb)
    · rw [List.mem_singleton] at q
      subst q
      exact (hf.lower h8).keepP hfb (fun b hb hl => hgr.block b hl (fun e => by have := (hrv b e.symm).2; omega))
  · rcases List.mem_append.1 hx with q | q
    · exact (h.bl x q).imp (h.inn x q) (fun b hb hl => hno b (by omega) hb)
    · rw [List.mem_singleton] at q
      subst q
      exact hfb.imp hf (fun b hb hl => hno b (by omega) (fun e => by have := (hrv b e.symm).2; omega))
  · by_cases hi : i < k
    · rw [List.getElem?_append_left (by rw [h.len]; exact hi)] at h2
      exact h.fp i z' f' h1 h2
    · have hik : i = k := by
        have h3 := (List.getElem?_eq_some_iff.1 h2).1
        rw [List.length_append, h.len] at h3
        simp at h3
        omega
      subst hik
      rw [hz] at h1
      injection h1 with h1
      rw [List.getElem?_append_right (by rw [h.len]; exact Nat.le_refl _), h.len, Nat.sub_self] at h2
      simp at h2
      rw [← h1, ← h2]
      exact hp
/-- What an expression's functions come to. -/
def ClR (t : Ex) (W : World) (e : Ending) (w' : World) : Prop :=
  Below W.heap.size W w' ∧
  ((e = .returned (.tuple #[.slice none 0 0, .iface 42 (.int .i64 4)]) ∧ ((∃ x, t.freeB x = true) ∨ t.nlB = true)) ∨
   (e = .returned (.tuple #[.slice none 0 0, .iface 42 (.int .i64 6)]) ∧ 2000 < 1 + t.cnt ∧ (∀ x : Str, x.length ≤ maxLen → t.freeB x = false) ∧ t.nlB = false) ∨
   (∃ (f0 : Fu) (fs : List Fu) (zs : List Ex) (A : Option Addr) (c : Nat), e = .returned (.tuple #[.slice A (fs.length + 1) c, .nilIface]) ∧ Rd w' 9 A (fs.length + 1) ((f0 :: fs).flatMap Fu.cells) ∧ (∀ f ∈ f0 :: fs, f.In w') ∧
      f0.s = [] ∧ f0.t = [] ∧ f0.caps = [] ∧ f0.n = 0 ∧ f0.y.eqv (numE t 0) ∧ exL zs (fnsE t 0) ∧ zs.length = fs.length ∧ (∀ z ∈ zs, z.Nm) ∧ (∀ (i : Nat) (z : Ex) (f : Fu), zs[i]? = some z → fs[i]? = some f → FunP z f) ∧
      (∀ x : Str, x.length ≤ maxLen → t.freeB x = false) ∧ t.nlB = false ∧ 1 + t.cnt ≤ 2000))
end Go.Proofs.Ytpnihimoekkepaa
