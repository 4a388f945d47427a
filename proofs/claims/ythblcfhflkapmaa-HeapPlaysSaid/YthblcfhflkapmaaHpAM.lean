/-
  The law: what a Make of fine words comes to, as far as HeapKeeps looks.
-/
import Derived.Test.YthblcfhflkapmaaHpAL
namespace Go.Proofs.Ythblcfhflkapmaa
open Go Go.ChangeShapes Go.WideShapes Go.ChangeAt Go.RowKit Go.Sort
set_option linter.unusedVariables false
set_option linter.unusedSimpArgs false

section
variable {w : World} {B hb : Nat} {size runs : Int} {L : List Ob} {V G V' G' : Value} {roots l : List Wd}
/-- What is told of a Make that was not refused. -/
structure MkR (w : World) (B hb : Nat) (size runs : Int) (V G V' G' : Value) (nr : Nat) (w' : World) (p : Int) (vr err : Value) (L' : List Ob) (runs' : Int) (V1 G1 V1' G1' : Value) (rs : List Wd) : Prop where
  ch : CH w' B hb size runs' L' V1 G1 V1' G1'
  wf : Wf L'
  sz : (sizes L' : Int) ≤ size
  ru : runs ≤ runs' ∧ runs' ≤ runs + 1
  ln : rs.length = nr
  row : w'.ownsRow B WTy 2 vr nr (wcells rs)
  fn : ∀ u ∈ rs, Fine L' u
  nh : ∀ g, vr.ownBlock = some g → Nh hb V1 G1 V1' G1' g ∧ w.heap.size ≤ g
  tr : Tr w (Nh hb V G V' G') w' (Nh hb V1 G1 V1' G1')
  bl : Below B w w'
  er : (err = .nilIface ∧ ∃ j, at_ L' p = some j) ∨ err = .iface 29 (.int .i64 7)
theorem coll_le (L : List Ob) (roots : List Wd) (h : (sizes L : Int) ≤ size) : (sizes (collO L roots) : Int) ≤ size := by
  have h1 : sizes (collO L roots) ≤ sizes L := by
    rw [show collO L roots = newO L (ordF L roots) from rfl, newO_sizes]
    exact obs_le (ord_og L roots L.length)
  omega
theorem Make_sum (h : CH w B hb size runs L V G V' G') (hW : Wf L) (hBw : B ≤ w.heap.size) (hs : (sizes L : Int) ≤ size) (hz : 1 ≤ size ∧ size ≤ 3000) (hru : 0 ≤ runs ∧ runs ≤ 4000000) (k : Int) (A1 A2 : Option Addr) (c1 c2 : Nat) (hl : Rd w 2 A1 l.length (wcells l)) (hr : Rd w 2 A2 roots.length (wcells roots)) (hrm : roots.length ≤ 1000000) (hf1 : ∀ u ∈ l, Fine L u) (hf2 : ∀ u ∈ roots, Fine L u) :
    Calls Try.prog 9 #[.pointer (some ⟨hb, 0, none⟩), .int .i64 k, .slice A1 l.length c1, .slice A2 roots.length c2] w fun e w' => (e = .returned noObj ∧ Below w.heap.size w w') ∨
      ∃ p vl vr err L' runs' V1 G1 V1' G1' rs, e = .returned (.tuple #[.int .i64 p, vl, vr, err]) ∧ MkR w B hb size runs V G V' G' roots.length w' p vr err L' runs' V1 G1 V1' G1' rs := by
  have hs' : sizes L ≤ 4000000 := by omega
  by_cases hk : headOk k (l.length : Nat)
  · have hk3 : 0 ≤ k ∧ k ≤ 15 ∧ l.length ≤ 4000 := ⟨hk.1, hk.2.1, by have := hk.2.2.2; omega⟩
    by_cases hroom : (l.length : Int) < size - sizes L
    · refine (Make_room h hBw hs' (by omega) k hk A1 A2 c1 c2 hl hr (by omega) hf1 hf2 hroom).mono ?_
      rintro e w' ⟨vl, vr, V1, G1, rfl, q1, q2, q3, q4, q5⟩
      refine .inr ⟨_, vl, vr, _, _, _, V1, G1, _, _, roots, rfl, ⟨q1, hW.app hf1 hk3, ?_, by omega, rfl, q2.2, fun u hu => (hf2 u hu).app _, fun g hg => q3 g (.inr hg), q4, q5, .inl ⟨rfl, _, at_new _⟩⟩⟩
      rw [sizes_append]
      simp only [sizes, osz]
      omega
    · refine (Make_coll h hW hBw hs' (by omega) hru k hk A1 A2 c1 c2 hl hr hrm hf1 hf2 hroom).mono ?_
      rintro e w' ⟨vl, vr, V1, G1, V1', G1', L', q1, q2, q3, q4, q5, q6⟩
      have hfa : ∀ u ∈ roots ++ l, Fine L u := fun u hu => (List.mem_append.1 hu).elim (hf2 u) (hf1 u)
      have hcf := collR_fine hfa
      have hcl : (collR L (roots ++ l)).length = roots.length + l.length := by simp [collR]
      rcases q2 with ⟨r1, rfl, rfl⟩ | ⟨r1, rfl, rfl⟩
      · refine .inr ⟨_, vl, vr, _, _, _, V1, G1, _, _, (collR L (roots ++ l)).take roots.length, rfl, ⟨q1, (hW.coll _).app (fun u hu => hcf u (List.mem_of_mem_drop hu)) ⟨hk3.1, hk3.2.1, by rw [List.length_drop, hcl]; omega⟩, ?_, by omega, by rw [List.length_take, hcl]; omega, q3.2, fun u hu => (hcf u (List.mem_of_mem_take hu)).app _, fun g hg => q4 g (.inr hg), q5, q6, .inl ⟨rfl, _, at_new _⟩⟩⟩
        rw [sizes_append]
        simp only [sizes, osz, List.length_drop, hcl]
        omega
      · exact .inr ⟨_, vl, vr, _, _, _, V1, G1, _, _, (collR L (roots ++ l)).take roots.length, rfl, ⟨q1, hW.coll _, coll_le L _ hs, by omega, by rw [List.length_take, hcl]; omega, q3.2, fun u hu => hcf u (List.mem_of_mem_take hu), fun g hg => q4 g (.inr hg), q5, q6, .inr rfl⟩⟩
  · exact (Make_head k hk w _ A1 A2 roots.length c1 c2).mono fun e w' q => .inl q
end
end Go.Proofs.Ythblcfhflkapmaa
