/-
  A Rec's own names are struck from those that it takes along: by the code.
-/
import Derived.Test.YtpnihimoekkepaaCoP
import Derived.Test.YtpnihimoekkepaaShelfD
import Derived.Sort.OwnSorted
namespace Go.Proofs.Ytpnihimoekkepaa
open Go.ChangeShapes Go.WideShapes Go.ChangeAt Go.RowKit Go.Sort Go.Shelf
set_option linter.unusedVariables false
set_option linter.unusedSimpArgs false

def ownB (d : ExD) (s : Str) : Bool := decide (s = d.s) || decide (s = d.t)
theorem fun1_any (d : ExD) (b o q : Nat) (s : Str) (w : World) (hq : w.cell? ⟨q, 0, none⟩ = some (.pointer (some ⟨b, o, none⟩))) (h2 : w.cell? ⟨b, o + 2, none⟩ = some (.string (bstr d.s))) (h3 : w.cell? ⟨b, o + 3, none⟩ = some (.string (bstr d.t))) :
    Calls Try.prog 34 #[.string (bstr s), .pointer (some ⟨q, 0, none⟩)] w fun e w' => e = .returned (.bool (ownB d s)) ∧ w' = w := by
  unfold ownB
  by_cases e1 : s = d.s
  · have g1 : ((bstr s).toList == (bstr d.s).toList) = true := by rw [beq_bstr]; simpa using e1
    rw [decide_eq_true e1, Bool.true_or]
    clear e1
    go_enter Try.func34, Try.ntmps34
    go_wp2_with fail
    go_returns
    exact ⟨rfl, rfl⟩
  · have g1 : ((bstr s).toList == (bstr d.s).toList) = false := by rw [beq_bstr]; simpa using e1
    rw [decide_eq_false e1, Bool.false_or]
    clear e1
    by_cases e2 : s = d.t
    · have g2 : ((bstr s).toList == (bstr d.t).toList) = true := by rw [beq_bstr]; simpa using e2
      rw [decide_eq_true e2]
      clear e2
      go_enter Try.func34, Try.ntmps34
      go_wp2_with fail
      go_returns
      exact ⟨rfl, rfl⟩
    · have g2 : ((bstr s).toList == (bstr d.t).toList) = false := by rw [beq_bstr]; simpa using e2
      rw [decide_eq_false e2]
      clear e2
      go_enter Try.func34, Try.ntmps34
      go_wp2_with fail
      go_returns
      exact ⟨rfl, rfl⟩

theorem own_len {w : World} {base : Nat} {e : TypeId} {v : Value} {n : Nat} {l : List Str} (h : w.ownsRow base e 1 v n (strs l)) : n = l.length := by
  have := h.1; rw [strs_length] at this; omega
set_option maxRecDepth 100000 in
theorem idx_nil (q : Nat) (w : World) : Calls Try.prog 43 #[.slice none 0 0, .func (.func 34) #[] #[.pointer (some ⟨q, 0, none⟩)]] w fun e w' => e = .returned (.int .i64 (-1)) ∧ w' = w := by
  go_enter Try.func43, Try.ntmps43
  go_wp2_with fail
  refine wp_loop_rounds 1 ?_
  rw [rounds_succ]
  go_wp2_with fail
  go_returns
  exact ⟨rfl, rfl⟩
set_option maxRecDepth 100000 in
theorem del_any (d : ExD) (b o q : Nat) (base : Nat) (v : Value) (ss : List Str) (w : World) (hrow : w.ownsRow base 9 1 v ss.length (strs ss)) (hB : base ≤ w.heap.size) (hm : ss.length ≤ 4000000) (hqb : q < base) (hbb : b < base)
    (hq : w.cell? ⟨q, 0, none⟩ = some (.pointer (some ⟨b, o, none⟩))) (h2 : w.cell? ⟨b, o + 2, none⟩ = some (.string (bstr d.s))) (h3 : w.cell? ⟨b, o + 3, none⟩ = some (.string (bstr d.t))) :
    Calls Try.prog 33 #[v, .func (.func 34) #[] #[.pointer (some ⟨q, 0, none⟩)]] w fun e w' => ∃ v', e = .returned v' ∧ w'.ownsRow base 9 1 v' (ss.filter fun s => !ownB d s).length (strs (ss.filter fun s => !ownB d s)) ∧ Below base w w' := by
  rcases hrow.2 with ⟨rfl, h0⟩ | ⟨g, cap, cur, rfl, hbase, hb, h1, h2', h3', h4⟩
  · have hl : ss = [] := List.eq_nil_of_length_eq_zero h0
    subst hl
    have HI := Lib.hid (idx_nil q w)
    have HRW := Lib.hid hrow
    clear hrow hq h2 h3 hB hm hqb hbb h0
    go_enter Try.func33, Try.ntmps33
    go_wp2_with fail
    refine HI.out.mono ?_
    rintro e w1 ⟨rfl, hw1⟩
    rw [hw1]
    clear hw1 w1
    go_wp2_with fail
    go_returns
    exact ⟨_, rfl, HRW.out, Below.refl _ _⟩
  · have hgq : g ≠ q := by omega
    have hgb : g ≠ b := by omega
    have hp : PredAt Try.prog 34 #[.pointer (some ⟨q, 0, none⟩)] encStr (ownB d) w := fun W x hW =>
      (fun1_any d b o q x W (cell_below hW hq) (cell_below hW h2) (cell_below hW h3)).mono fun e w' hh => ⟨hh.1, 0, hh.2⟩
    have hpo : PredOver Try.prog 34 #[.pointer (some ⟨q, 0, none⟩)] encStr (ownB d) g 0 ss.toArray.size w := fun n os dk x _ => by
      have hg := grownBy_sorted (w := w) (g := g) (n := n) (os := os) dk
      have hk : ∀ k i u, k ≠ g → w.cell? ⟨k, i, none⟩ = some u → (grow (putRow encStr (Sort.ahead w n) g 0 dk) os).cell? ⟨k, i, none⟩ = some u := fun k i u hne hc => by
        rw [World.cell?_of_block (w := w) (hg.block k (World.block_lt_of_cell? w _ hc) (by intro e; injection e with e; exact hne e))]
        exact hc
      exact (fun1_any d b o q x _ (hk q 0 _ (Ne.symm hgq) hq) (hk b _ _ (Ne.symm hgb) h2) (hk b _ _ (Ne.symm hgb) h3)).mono fun e w' hh => ⟨hh.1, 0, hh.2⟩
    refine (AnyE.slices_DeleteFunc Try.del33 encStr (by intro _; rfl) (ownB d) 34 #[.pointer (some ⟨q, 0, none⟩)] (enters_of Try.func34 (by kernel_rfl) rfl) [] (fun _ => by kernel_rfl) g 0 cap ss.toArray w hp hpo (holds_of_block hb (by rw [Nat.mul_one] at h4; exact h4)) (by simp; omega) (by simpa using h1)).mono ?_
    rintro e w' ⟨rfl, n, rfl⟩
    have hlen : (ss.filter fun s => !ownB d s).length ≤ ss.length := List.length_filter_le _ _
    have hl2 : ((ss.filter fun s => !ownB d s) ++ List.replicate (ss.length - (ss.filter fun s => !ownB d s).length) []).length = ss.length := by simp; omega
    have hrow' := ownsRow_sorted (n := n) (os := #[]) hl2 hbase hb h1 h2' h3'
    rw [Sort.grow_empty] at hrow'
    refine ⟨_, rfl, ?_, ?_⟩
    · rcases hrow'.2 with ⟨hx, _⟩ | ⟨g', cap', cur', hv, hbase', hb', h1', h2'', h3'', h4'⟩
      · cases hx
      · injection hv with hg hn hc
        injection hg with hg
        injection hg with hg
        subst hg
        subst hc
        refine ⟨by simp [strs], .inr ⟨g, cap, cur', rfl, hbase', hb', by omega, h2'', h3'', ?_⟩⟩
        have e := congrArg (List.take (ss.filter fun s => !ownB d s).length) h4'
        rw [List.take_take, Nat.mul_one, Nat.min_eq_left hlen, List.map_append, List.take_append_of_le_length (by simp), List.take_of_length_le (l := List.map _ _) (by simp)] at e
        rw [Nat.mul_one, e]; rfl
    · have hg := grownBy_sorted (w := w) (g := g) (n := n) (os := #[]) ((ss.filter fun s => !ownB d s) ++ List.replicate (ss.length - (ss.filter fun s => !ownB d s).length) []).toArray
      rw [Sort.grow_empty] at hg
      exact (Below.refl _ _).grown hg hB (by intro k hk; injection hk with hk; omega)
end Go.Proofs.Ytpnihimoekkepaa
