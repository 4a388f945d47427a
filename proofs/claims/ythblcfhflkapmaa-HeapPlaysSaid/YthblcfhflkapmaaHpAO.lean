/-
  The law HeapKeeps: what holds of the heap and of the places, and how it stays.
-/
import Derived.Test.YthblcfhflkapmaaHpAN
namespace Go.Proofs.Ythblcfhflkapmaa
open Go Go.ChangeShapes Go.WideShapes Go.ChangeAt Go.RowKit Go.Sort
set_option linter.unusedVariables false
set_option linter.unusedSimpArgs false

/-- The heap, the places (in a row of their own) and their count; w0 is where the law began. -/
structure HK (w0 w : World) (N hb : Nat) (size : Int) (i : Nat) (L : List Ob) (ps : List Wd) (x : Value) (runs : Int) (V G V' G' : Value) : Prop where
  ch : CH w N hb size runs L V G V' G'
  wf : Wf L
  sz : (sizes L : Int) ≤ size
  ru : 0 ≤ runs ∧ runs ≤ i
  ln : ps.length ≤ i
  row : w.ownsRow N WTy 2 x ps.length (wcells ps)
  fn : ∀ u ∈ ps, Fine L u
  nh : ∀ g, x.ownBlock = some g → Nh hb V G V' G' g
  bl : Below N w0 w
  le : N ≤ w.heap.size
section
variable {w0 w w' : World} {N hb i : Nat} {size runs : Int} {L : List Ob} {V G V' G' x : Value} {ps : List Wd}
theorem HK.below (h : HK w0 w N hb size i L ps x runs V G V' G') (hb' : Below w.heap.size w w') : HK w0 w' N hb size i L ps x runs V G V' G' :=
  ⟨h.ch.below hb', h.wf, h.sz, h.ru, h.ln, own_below h.row hb', h.fn, h.nh, h.bl.trans (hb'.mono h.le), Nat.le_trans h.le hb'.size⟩
theorem HK.up (h : HK w0 w N hb size i L ps x runs V G V' G') : HK w0 w N hb size (i + 1) L ps x runs V G V' G' :=
  ⟨h.ch, h.wf, h.sz, ⟨h.ru.1, by have := h.ru.2; omega⟩, by have := h.ln; omega, h.row, h.fn, h.nh, h.bl, h.le⟩
theorem HK.start (h : CH w N hb size 0 [] V G V' G') (hs : 0 ≤ size) (hb' : Below N w0 w) (hl : N ≤ w.heap.size) : HK w0 w N hb size 0 [] [] (.slice none 0 0) 0 V G V' G' :=
  ⟨h, Wf.nil, by simp [sizes]; exact hs, by simp, by simp, World.ownsRow_nil _ _ _ _, (fun u hu => nomatch hu), (fun g hg => nomatch hg), hb', hl⟩
/-- Behind a Make that was not refused. -/
theorem HK.made (h : HK w0 w N hb size i L ps x runs V G V' G') {p : Int} {vr err : Value} {L' : List Ob} {runs' : Int} {V1 G1 V1' G1' : Value} {rs : List Wd} (m : MkR w N hb size runs V G V' G' ps.length w' p vr err L' runs' V1 G1 V1' G1' rs) :
    HK w0 w' N hb size (i + 1) L' rs vr runs' V1 G1 V1' G1' :=
  ⟨m.ch, m.wf, m.sz, ⟨by have := h.ru; have := m.ru; omega, by have := h.ru; have := m.ru; omega⟩, by have := h.ln; rw [m.ln]; omega, by rw [m.ln]; exact m.row, m.fn, fun g hg => (m.nh g hg).1, h.bl.trans m.bl, Nat.le_trans h.le m.bl.size⟩
/-- Behind a Set. -/
theorem HK.set (h : HK w0 w N hb size i L ps x runs V G V' G') {L' : List Ob} (c : CH w' N hb size runs L' V G V' G') (hw : Wf L') (hs : sizes L' = sizes L) (hf : ∀ u, Fine L u → Fine L' u) (ht : Tr w (Nh hb V G V' G') w' (Nh hb V G V' G')) (hb' : Below N w w') : HK w0 w' N hb size i L' ps x runs V G V' G' :=
  ⟨c, hw, by rw [hs]; exact h.sz, h.ru, h.ln, own_keep h.row (fun g hg hl => (ht g (h.nh g hg) hl).2), fun u hu => hf u (h.fn u hu), h.nh, h.bl.trans hb', Nat.le_trans h.le hb'.size⟩
/-- The places in another row, one more of them. -/
theorem HK.more (h : HK w0 w N hb size i L ps x runs V G V' G') (hb' : Below w.heap.size w w') {y : Value} {u : Wd} (hu : Fine L u) (hi : ps.length < i) (ho : w'.ownsRow w.heap.size WTy 2 y (ps.length + 1) (wcells ps ++ wcells [u])) : HK w0 w' N hb size i L (ps ++ [u]) y runs V G V' G' := by
  have h1 := h.below hb'
  refine ⟨h1.ch, h1.wf, h1.sz, h1.ru, by simp; omega, ?_, fun v hv => ?_, fun g hg => ?_, h1.bl, h1.le⟩
  · rw [List.length_append, List.length_singleton, wcells_append]
    exact own_mono ho h.le
  · rcases List.mem_append.1 hv with q | q
    · exact h.fn v q
    · rw [List.mem_singleton.1 q]; exact hu
  · rcases ho.2 with ⟨_, e⟩ | ⟨g', cap, cur, hv, hg', _⟩
    · omega
    · rw [hv] at hg
      simp only [Value.ownBlock, Option.some.injEq] at hg
      exact h.ch.fresh (hg ▸ hg')
end
end Go.Proofs.Ythblcfhflkapmaa
