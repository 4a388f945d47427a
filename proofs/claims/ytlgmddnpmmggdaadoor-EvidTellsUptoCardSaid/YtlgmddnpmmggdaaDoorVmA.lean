/-
  Numbers that were met, by the code: a list and a map that two closures share.
-/
import Derived.Test.YtlgmddnpmmggdaaDoorNmB
import Derived.Maps.OwnSet
namespace Go.Proofs.YtlgmddnpmmggdaaDoor
open Go.ChangeShapes Go.WideShapes Go.ChangeAt Go.RowKit Go.Sort Go.Maps
set_option linter.unusedVariables false
set_option linter.unusedSimpArgs false

theorem lawInt : Keyed Tryd.prog 3 := int_keyed Tryd.underlying3
theorem zeroUnit (w : World) : (zeroValue 91).run Tryd.prog w = .ok (.agg #[]) w := by kernel_rfl

/-- The list's cell lies in the block B, the map in the next, the map's cell in the next. -/
structure MT (w : World) (B : Nat) (l : List Int) (v : Value) : Prop where
  cl : w.cell? ⟨B, 0, none⟩ = some v
  fl : w.frozen? ⟨B, 0, none⟩ = false
  cm : w.cell? ⟨B + 2, 0, none⟩ = some (.map (some (B + 1)))
  own : w.ownsRow (B + 3) 3 1 v l.length (i64s l)
  mp : ∃ D, w.ownsMap (H := Unit) Tryd.prog 3 unitElem (B + 1) l.length D ∧ ∀ x, (Lit.int .i64 x).wf = true → Maps.has D (.int .i64 x) = decide (x ∈ l)
/-- A block that is another's. -/
def OthM (B : Nat) (w : World) (v : Value) (g : Nat) : Prop := g < w.heap.size ∧ g ≠ B ∧ g ≠ B + 1 ∧ g ≠ B + 2 ∧ some g ≠ v.ownBlock
structure WM (B : Nat) (w : World) (v : Value) (w' : World) (v' : Value) : Prop where
  b : Below B w w'
  oth : ∀ g, OthM B w v g → OthM B w' v' g ∧ w'.heap[g]? = w.heap[g]?
  new : ∀ k, v'.ownBlock = some k → v.ownBlock = some k ∨ w.heap.size ≤ k
section
variable {B : Nat} {w w1 w2 : World} {l : List Int} {v v1 v2 : Value}
theorem MT.lt (h : MT w B l v) : B + 2 < w.heap.size := World.block_lt_of_cell? w _ h.cm
theorem MT.below (h : MT w B l v) (hb : Below w.heap.size w w1) : MT w1 B l v := by
  obtain ⟨D, h1, h2⟩ := h.mp
  have hlt := h.lt
  refine ⟨cell_below hb h.cl, (hb.frozen (p := ⟨B, 0, none⟩) (by show B < _; omega)).trans h.fl, cell_below hb h.cm, own_below h.own hb, D, ?_, h2⟩
  have hlt := h1.lt
  obtain ⟨es, clock, hh, F, hs, hD⟩ := h1
  exact ⟨es, clock, (hb.block (B + 1) hlt).trans hh, F, hs, hD⟩
theorem WM.refl : WM B w v w v := ⟨Below.refl _ _, fun g h => ⟨h, rfl⟩, fun k h => .inl h⟩
theorem WM.trans (h : WM B w v w1 v1) (k : WM B w1 v1 w2 v2) : WM B w v w2 v2 :=
  ⟨h.b.trans k.b, fun g hg => ⟨(k.oth g (h.oth g hg).1).1, (k.oth g (h.oth g hg).1).2.trans (h.oth g hg).2⟩, fun g hg => by
    rcases k.new g hg with q | q
    · exact h.new g q
    · exact .inr (Nat.le_trans h.b.size q)⟩
theorem WM.below (hN : B ≤ w.heap.size) (hb : Below w.heap.size w w1) : WM B w v w1 v :=
  ⟨hb.mono hN, fun g h => ⟨⟨Nat.lt_of_lt_of_le h.1 hb.size, h.2⟩, hb.block g h.1⟩, fun k h => .inl h⟩

theorem MT.add (h : MT w B l v) {x : Int} (hx : x ∉ l) (hwf : (Lit.int .i64 x).wf = true) {o1 o2 : Obj} {w1 w6 : World} {v6 : Value} {D : DataW Unit}
    (hD : ∀ y, (Lit.int .i64 y).wf = true → Maps.has D (.int .i64 y) = decide (y ∈ l)) (hmd : Maps.IsMap D)
    (h1 : w1.ownsMap (H := Unit) Tryd.prog 3 unitElem (B + 1) (l.length + 1) (D.put (.int .i64 x) (.agg []))) (hg1 : (w.alloc o1).grownBy w1 (some (B + 1)))
    (h6 : w6.ownsRow (B + 3) 3 1 v6 (l.length + 1) (i64s l ++ [.int .i64 x])) (hg6 : (w1.alloc o2).grownBy w6 v.ownBlock) (hat : v6.ownBlock = v.ownBlock ∨ v6.ownBlock = some (w1.alloc o2).heap.size) :
    MT (w6.setCell ⟨B, 0, none⟩ v6) B (addI l x) v6 ∧ WM B w v (w6.setCell ⟨B, 0, none⟩ v6) v6 := by
  have hlt := h.lt
  have e : addI l x = l ++ [x] := by unfold addI; rw [if_neg hx]
  have s1 : (w.alloc o1).heap.size ≤ w1.heap.size := hg1.size
  have s2 : (w1.alloc o2).heap.size ≤ w6.heap.size := hg6.size
  rw [World.size_alloc] at s1 s2
  have hnv : ∀ k, k < B + 3 → some k ≠ v.ownBlock := fun k hk e => by have := (h.own.lt k e.symm).1; omega
  -- a block of w that is neither the map's nor the row's
  have key : ∀ g, g < w.heap.size → g ≠ B + 1 → some g ≠ v.ownBlock → w6.heap[g]? = w.heap[g]? := by
    intro g hg hg1' hgv
    have a1 : (w.alloc o1).heap[g]? = w.heap[g]? := Below.heap_alloc w o1 g hg
    have a2 : w1.heap[g]? = (w.alloc o1).heap[g]? := hg1.block g (by rw [World.size_alloc]; omega) (by intro h'; injection h' with h'; exact hg1' h')
    have a3 : (w1.alloc o2).heap[g]? = w1.heap[g]? := Below.heap_alloc w1 o2 g (by omega)
    have a4 : w6.heap[g]? = (w1.alloc o2).heap[g]? := hg6.block g (by rw [World.size_alloc]; omega) hgv
    exact a4.trans (a3.trans (a2.trans a1))
  have kB := key B (by omega) (by omega) (hnv B (by omega))
  have kC := key (B + 2) (by omega) (by omega) (hnv (B + 2) (by omega))
  have g0 : (w6.setCell ⟨B, 0, none⟩ v6).cell? ⟨B, 0, none⟩ = some v6 := World.cell?_setCell_same _ _ _ ((World.cell?_of_block (a := ⟨B, 0, none⟩) kB).trans h.cl)
  have g1 : (w6.setCell ⟨B, 0, none⟩ v6).cell? ⟨B + 2, 0, none⟩ = some (.map (some (B + 1))) := by
    rw [World.cell?_setCell_other]
    · exact (World.cell?_of_block (a := ⟨B + 2, 0, none⟩) kC).trans h.cm
    · intro h'; injection h' with h' _ _; omega
  have g2 : (w6.setCell ⟨B, 0, none⟩ v6).frozen? ⟨B, 0, none⟩ = false := by rw [World.frozen?_setCell]; exact (World.frozen?_of_block (a := ⟨B, 0, none⟩) kB).trans h.fl
  have hm6 : w6.heap[B + 1]? = w1.heap[B + 1]? :=
    (hg6.block (B + 1) (by rw [World.size_alloc]; omega) (hnv (B + 1) (by omega))).trans (Below.heap_alloc w1 o2 (B + 1) (by omega))
  refine ⟨⟨g0, g2, g1, ?_, D.put (.int .i64 x) (.agg []), ?_, ?_⟩, ⟨?_, ?_, ?_⟩⟩
  · rw [e, i64s_append, List.length_append]
    exact ownsRow_setCell_below h6 (by show B < _; omega) _
  · rw [e, List.length_append]
    obtain ⟨es, clock, hh, F, hs, hDD⟩ := h1
    exact ⟨es, clock, ((Below.heap_setCell w6 _ _ (B + 1) (by show B + 1 ≠ B; omega)).trans hm6).trans hh, F, hs, hDD⟩
  · intro y hy
    rw [e]
    by_cases hyx : y = x
    · subst hyx
      rw [has_put_same hmd (lawInt.key (keyOf_int_mk Tryd.underlying3 hy))]
      simp
    · rw [has_put_other (by intro h'; injection h' with _ h'; exact hyx h'), hD y hy]
      simp [hyx]
  · refine ⟨hg6.os.trans hg1.os, hg6.tape.trans hg1.tape, hg6.output.trans hg1.output, ?_, fun k hk => ?_⟩
    · rw [World.size_setCell]; omega
    · exact (Below.heap_setCell w6 _ _ k (Nat.ne_of_lt hk)).trans (key k (by omega) (by omega) (hnv k (by omega)))
  · intro g hgo
    obtain ⟨q1, q2, q3, q4, q5⟩ := hgo
    refine ⟨⟨by rw [World.size_setCell]; omega, q2, q3, q4, ?_⟩, (Below.heap_setCell w6 _ _ g q2).trans (key g q1 q3 q5)⟩
    rcases hat with q | q
    · rw [q]; exact q5
    · rw [q, World.size_alloc]; intro e2; injection e2 with e2; omega
  · intro k hk
    rcases hat with q | q
    · exact .inl (q ▸ hk)
    · rw [q, World.size_alloc] at hk; injection hk with hk; right; omega
end

/-- What stands behind the map's store: the list's cell. -/
theorem MT.store {w w1 : World} {B : Nat} {l : List Int} {v : Value} (h : MT w B l v) {o1 : Obj} (hg : (w.alloc o1).grownBy w1 (some (B + 1))) :
    w1.cell? ⟨B, 0, none⟩ = some v ∧ w1.frozen? ⟨B, 0, none⟩ = false ∧ w1.ownsRow (B + 3) 3 1 v l.length (i64s l) ∧ B + 3 ≤ w1.heap.size := by
  have hlt := h.lt
  have s1 : (w.alloc o1).heap.size ≤ w1.heap.size := hg.size
  rw [World.size_alloc] at s1
  have hb : w1.heap[B]? = w.heap[B]? := (hg.block B (by rw [World.size_alloc]; omega) (by intro h'; injection h' with h'; omega)).trans (Below.heap_alloc w o1 B (by omega))
  refine ⟨(World.cell?_of_block (a := ⟨B, 0, none⟩) hb).trans h.cl, (World.frozen?_of_block (a := ⟨B, 0, none⟩) hb).trans h.fl, (h.own.alloc o1).kept hg (.inr ?_), by omega⟩
  intro h'
  have := (h.own.lt _ h').1
  omega
theorem mt_far {w1 w6 : World} {B n : Nat} {v x : Value} {xs : List Value} {o2 : Obj} (hc : w1.cell? ⟨B, 0, none⟩ = some v) (hf : w1.frozen? ⟨B, 0, none⟩ = false) (hr : w1.ownsRow (B + 3) 3 1 x n xs) (hg : (w1.alloc o2).grownBy w6 x.ownBlock) :
    w6.cell? ⟨B, 0, none⟩ = some v ∧ w6.frozen? ⟨B, 0, none⟩ = false := by
  have hlt : B < w1.heap.size := World.block_lt_of_cell? w1 _ hc
  have hb : w6.heap[B]? = w1.heap[B]? := (hg.block B (by rw [World.size_alloc]; omega) (by intro h'; have := (hr.lt _ h'.symm).1; omega)).trans (Below.heap_alloc w1 o2 B hlt)
  exact ⟨(World.cell?_of_block (a := ⟨B, 0, none⟩) hb).trans hc, (World.frozen?_of_block (a := ⟨B, 0, none⟩) hb).trans hf⟩

set_option maxRecDepth 100000 in
set_option maxHeartbeats 1000000 in
theorem meets_any (B : Nat) (l : List Int) (v : Value) (n : Int) (w : World) (h : MT w B l v) (hwf : (Lit.int .i64 n).wf = true) (hl : l.length ≤ 4000000) :
    Calls Tryd.prog 44 #[.int .i64 n, .pointer (some ⟨B + 2, 0, none⟩), .pointer (some ⟨B, 0, none⟩)] w fun e w' => e = .returned (.tuple #[]) ∧ ∃ v', MT w' B (addI l n) v' ∧ WM B w v w' v' := by
  have HM := Lib.hid h
  have hkey : keyOf Tryd.prog 3 (.int .i64 n) = some (.int .i64 n) := keyOf_int_mk Tryd.underlying3 hwf
  obtain ⟨D, hown, hD⟩ := h.mp
  have c2 := h.cm
  have c2b : (w.alloc (.cells #[] 91)).cell? ⟨B + 2, 0, none⟩ = _ := cell_alloc h.cm
  have HO := Lib.hid (And.intro hown hD)
  by_cases hmem : n ∈ l
  · have hh : Maps.has D (.int .i64 n) = true := by rw [hD n hwf]; exact decide_eq_true hmem
    have HE := Lib.hid (show addI l n = l by unfold addI; rw [if_pos hmem])
    clear hown hD hmem h hwf
    go_enter Tryd.func44, Tryd.ntmps44
    go_wp2_with (first
      | (at_lookup; refine wpList_lookup_own_unit _ rfl _ _ 90 rfl 3 91 lawInt Tryd.underlying90 (zeroUnit _) (B + 1) l.length D rfl HO.out.1 _ _ rfl hkey ?_; rw [hh])
      | fail)
    go_returns
    have hb : RowKit.Below w.heap.size w (w.alloc (.cells #[] 91)) := (Below.refl _ _).alloc (Nat.le_refl _) _
    exact ⟨rfl, v, by rw [HE.out]; exact HM.out.below hb, WM.below (by have := HM.out.lt; omega) hb⟩
  · have hh : Maps.has D (.int .i64 n) = false := by rw [hD n hwf]; exact decide_eq_false hmem
    have HX := Lib.hid (And.intro hmem hwf)
    have HS := Lib.hid (And.intro (show (l.length + 1) * 8 ≤ 140737488355328 by omega) (And.intro (show l.length < maxLen by unfold maxLen; omega) h.lt))
    have HIM := Lib.hid (show Maps.IsMap D from hown.isMap)
    have hownA := hown.alloc (.cells #[] 91)
    have HOA := Lib.hid hownA
    obtain ⟨A1, c1, rfl, _⟩ := own_cap h.own
    have HRW := Lib.hid (h.own.alloc (.cells #[] 91))
    have HL0 := Lib.hid (show (w.alloc (.cells #[] 91)).cell? ⟨B, 0, none⟩ = some (.slice A1 l.length c1) from cell_alloc h.cl)
    clear hown hD hmem h hwf hl hownA
    go_enter Tryd.func44, Tryd.ntmps44
    go_wp2_with (first
      | (at_lookup; refine wpList_lookup_own_unit _ rfl _ _ 90 rfl 3 91 lawInt Tryd.underlying90 (zeroUnit _) (B + 1) l.length D rfl HO.out.1 _ _ rfl hkey ?_; rw [hh])
      | (at_mapUpdate; refine wpList_mapUpdate_own _ rfl _ _ _ 90 rfl 3 91 lawInt Tryd.underlying90 (unitElem (H := Unit)) (B + 1) l.length D rfl HOA.out HS.out.2.1 _ _ (.int .i64 n) rfl rfl hkey (.agg []) [] unitElem_mk ?_; intro w1 hown1 hgrow1; obtain ⟨l1, f1, r1, z1⟩ := HM.out.store hgrow1; have HW1 := Lib.hid (And.intro hown1 hgrow1); have HR1 := Lib.hid (And.intro r1 z1); have l1b := cell_alloc (o := .cells #[.int .i64 n] 3) l1; clear hown1 hgrow1 r1 z1)
      | (at_builtin; refine wpList_app elInt _ rfl (.tmp 17) (.tmp 19) rfl (B + 3) (.slice A1 l.length c1) l.length (i64s l) rfl (HR1.out.1.alloc _) (some ⟨w1.heap.size, 0, none⟩) 1 1 _ rfl (Rd.lit w1 _ _ rfl) (one_int _) HS.out.1 (by have := HR1.out.2; rw [World.size_alloc]; omega) ?_; intro v6 w6 hown6 hb6 hg6 ho6; obtain ⟨l6, f6⟩ := mt_far l1 f1 HR1.out.1 hg6; obtain ⟨A6, c6, hv6, _⟩ := own_cap hown6; rw [hv6] at hown6 ho6 ⊢; clear hv6; have H6 := Lib.hid (And.intro hown6 (And.intro hg6 ho6)); clear hown6 hg6 ho6 hb6)
      | fail)
    go_returns
    have h9 := HM.out.add HX.out.1 HX.out.2 HO.out.2 HIM.out HW1.out.1 HW1.out.2 H6.out.1 H6.out.2.1 H6.out.2.2
    exact ⟨rfl, _, h9.1, h9.2⟩
def meetFn (B : Nat) : Value := .func (.func 44) #[] #[.pointer (some ⟨B + 2, 0, none⟩), .pointer (some ⟨B, 0, none⟩)]
def tellFn (B : Nat) : Value := .func (.func 45) #[] #[.pointer (some ⟨B, 0, none⟩)]
theorem tells_any (B : Nat) (l : List Int) (v : Value) (w : World) (h : MT w B l v) :
    Calls Tryd.prog 45 #[.pointer (some ⟨B, 0, none⟩)] w fun e w' => e = .returned v ∧ w' = w := by
  have c := h.cl
  obtain ⟨A1, c1, rfl, _⟩ := own_cap h.own
  clear h
  go_enter Tryd.func45, Tryd.ntmps45
  go_wp2_with fail
  go_returns
  exact ⟨rfl, rfl⟩

theorem mt_new (w : World) : MT (((w.alloc (.cells #[.slice none 0 0] 29)).alloc (.map #[] 0)).alloc (.cells #[.map (some (w.heap.size + 1))] 90)) w.heap.size [] (.slice none 0 0) := by
  refine ⟨cell_alloc (cell_alloc (cell_new w _ _ 0 rfl)), ?_, ?_, World.ownsRow_nil _ _ _ _, .map [], ?_, fun x hx => by simp; rfl⟩
  · have e : (((w.alloc (.cells #[.slice none 0 0] 29)).alloc (.map #[] 0)).alloc (.cells #[.map (some (w.heap.size + 1))] 90)).heap[w.heap.size]? = some (.cells #[.slice none 0 0] 29) :=
      (Below.heap_alloc _ _ _ (by rw [World.size_alloc, World.size_alloc]; omega)).trans ((Below.heap_alloc _ _ _ (by rw [World.size_alloc]; omega)).trans (heap_alloc_new w _))
    unfold World.frozen?
    rw [show (⟨w.heap.size, 0, none⟩ : Addr).block = w.heap.size from rfl, e]
    rfl
  · have := cell_new ((w.alloc (.cells #[.slice none 0 0] 29)).alloc (.map #[] 0)) #[.map (some (w.heap.size + 1))] 90 0 (v := .map (some (w.heap.size + 1))) rfl (fr := (0, 0))
    rw [World.size_alloc, World.size_alloc] at this
    exact this
  · have := (World.ownsMap_made (H := Unit) (w.alloc (.cells #[.slice none 0 0] 29)) Tryd.prog 3 unitElem).alloc (.cells #[.map (some (w.heap.size + 1))] 90)
    rw [World.size_alloc] at this
    exact this

set_option maxRecDepth 100000 in
theorem meeting_any (w : World) :
    Calls Tryd.prog 35 #[] w fun e w' => e = .returned (.tuple #[meetFn w.heap.size, tellFn w.heap.size]) ∧ MT w' w.heap.size [] (.slice none 0 0) ∧ RowKit.Below w.heap.size w w' ∧ w'.heap.size = w.heap.size + 3 := by
  have hmf : ∀ (fn : Fn) (first cap : Array Value) (w : World), (Instr.makeFunc fn first cap).run Tryd.prog w = .ok (.func fn first cap) w := fun _ _ _ _ => rfl
  have hmm := @run_makeMap Tryd.prog
  go_enter Tryd.func35, Tryd.ntmps35
  go_wp2_with fail
  go_returns
  exact ⟨rfl, mt_new w, (((Below.refl _ _).alloc (Nat.le_refl _) _).alloc (by simp) _).alloc (by simp; omega) _, by simp⟩
end Go.Proofs.YtlgmddnpmmggdaaDoor
