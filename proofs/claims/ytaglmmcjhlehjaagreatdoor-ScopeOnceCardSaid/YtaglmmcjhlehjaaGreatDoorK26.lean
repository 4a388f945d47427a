/-
  What the tied variables hold; from a walk to a statement.
  Expressions that came in, opened under the bound on all that they hold.
  From a walk to a statement of the second form: where all that is read is bounded.
  What the tied variables hold, a handle among them; from a walk to a statement of the second form.
-/
import Derived.Test.YtaglmmcjhlehjaaGreatDoorK25
import Derived.Test.YtaglmmcjhlehjaaGreatDoorK01
import Derived.LaidMore
import Derived.LaidLaws
import Derived.LaidHandle
import Derived.Stop.Joined
import Derived.Stop.LaidErr
import Derived.JoinedOf
import Derived.ChangeSame
import Derived.ChangeVars
import Derived.Test.YtaglmmcjhlehjaaGreatDoorK13
import Derived.Test.YtaglmmcjhlehjaaGreatDoorK04
import Derived.Test.YtaglmmcjhlehjaaGreatDoorK05
import Derived.Deep.DeepHandedRow
import Derived.Lib.LaidTab
import Derived.Test.YtaglmmcjhlehjaaGreatDoorK18
namespace Go.Proofs.YtaglmmcjhlehjaaGreatDoor
open Go.ChangeShapes Go.WideShapes Go.ChangeAt Go.RowKit
set_option linter.unusedVariables false

/-- What the rows of this seat list. -/
abbrev seatLaid : List (String × DataW Unit) := [("math/bits.deBruijn32tab", Rows.laid_math_bits_deBruijn32tab), ("math/bits.deBruijn64tab", Rows.laid_math_bits_deBruijn64tab), ("internal/strconv.uint64pow10", Rows.laid_internal_strconv_uint64pow10), ("strconv.ErrRange", Rows.laid_strconv_ErrRange), ("strconv.ErrSyntax", Rows.laid_strconv_ErrSyntax)]

theorem gER : Tryz.prog.globalNamed "strconv.ErrRange" = some 5 := by kernel_rfl
theorem tER : (Tryz.prog.globals[5]?).map (·.type) = some 31 := by kernel_rfl

set_option maxRecDepth 100000 in
theorem lay_of_laid {W : World} (h : laidMetH Tryz.prog seatLaid W) : Lay W := by
  have h' : laidMet Tryz.prog seatLaid W := h
  refine ⟨?_⟩
  obtain ⟨ps, ⟨g0, t0, cs0, f0, p0, q0, hg0, ht0, hv0, hd0, _, e0⟩, _, hrows⟩ := h'.tail.tail.tail
  obtain rfl := Option.some.inj (gER.symm.trans hg0)
  obtain rfl := Option.some.inj (tER.symm.trans ht0)
  obtain ⟨_, u, v, hcs, _, _⟩ := iface_of_trod Tryz.underlying31 (name := "*errors.errorString") (d := .ptr (.agg [.lit (.string [118, 97, 108, 117, 101, 32, 111, 117, 116, 32, 111, 102, 32, 114, 97, 110, 103, 101])])) hd0
  refine ⟨u, v, ?_⟩
  have := World.var?_cell gER hv0 0
  rw [Array.eq_one_of_toList hcs] at this
  simpa using this
theorem door_met (os : Os) (args : Array Value) : laidMetH Tryz.prog seatLaid ((World.doorLaid Tryz.prog 69 os).forCall (fun _ _ => 0) ⟨#[], args, []⟩).memory :=
  laidMetH_of_parts3 (fuel := 8) (laidMet_of_run' 8 (by kernel_rfl) (by kernel_rfl)) (by kernel_rfl) (by kernel_rfl)

/-- What is to be walked of a law, the form's own reach and the tied variables handed to the walk. -/
def LawWalkL (F : FuncId) (ts : List TypeId) : Prop :=
  ∀ (H : Type) (enc : TypeId × Value → H) (W : World) (base : Nat) (args : Array Value) (ds : List (DataW H)) (p : List MemPlace),
    (∀ (j : Nat) t v, ts[j]? = some t → args[j]? = some v → Value.okWide Tryz.prog W .any base t v) →
    DataW.TrodAll enc Tryz.prog W 0 (fun _ => true) true ts args.toList ds p → (∀ x ∈ p, x.block < W.heap.size) → Lay W →
    Calls Tryz.prog F args W fun e W' => e = .returned (.bool true) ∧ Below W.heap.size W W'

set_option maxRecDepth 100000 in
theorem law_liftedL {os : Os} (started : os.Started) {H : Type} {enc : TypeId × Value → H} {F : FuncId} {f : Func} {s : ChangeSpec} {ts : List TypeId}
    (hF : Tryz.prog.funcs[F]? = some f) (noInit : Tryz.checked.prog.inits.idxOf? F = none) (hp : f.params.toList = ts) (hres : f.resultTypes = #[4]) (hv : s.vars = [])
    (hs : ∀ (H : Type) (ds : List (DataW H)), ds.length = ts.length → s.fn H ds = { results := [.lit (.bool true)], args := ds })
    (hr0 : (ts.all fun t => Tryz.prog.readableRec t && decide (t < Tryz.prog.types.size)) = true)
    (witness : ∃ (w : World) (tape : Tape) (i : Input), w.os = os ∧ (w.forCall tape i).Shaped Tryz.checked.prog ∧ i.vars = [] ∧ Input.okWide Tryz.checked.prog (w.forCall tape i) .any w.heap.size F i ∧
      ((s.pre enc Tryz.checked.prog f [] false (w.forCall tape i).memory i.args ∧ laidMetH Tryz.prog seatLaid (w.forCall tape i).memory) ∧ sizedMet enc Tryz.checked.prog f (OpenSpec.ofChange s) false (w.forCall tape i).memory i.args) ∧ Assume.holds {} Tryz.checked.prog (lone (Frame.enter Tryz.checked.prog F i.args .normal) [] (w.forCall tape i)))
    (walk : LawWalkL F ts) :
    ReturnsInHanded {} Tryz.checked os F .any (fun w args => (s.pre enc Tryz.prog f [] false w args ∧ laidMetH Tryz.prog seatLaid w) ∧ sizedMet enc Tryz.prog f (OpenSpec.ofChange s) false w args) (s.post enc Tryz.prog f false true false false) := by
  have hr : ∀ t ∈ ts, Tryz.prog.readableRec t = true ∧ t < Tryz.prog.types.size := fun t ht => by
    have h := List.all_eq_true.1 hr0 t ht
    simpa using h
  refine returnsInHanded_of_change_and (C := Tryz.checked) (X := fun w _ => laidMetH Tryz.prog seatLaid w) (fun _ _ _ hh h => h.of_heap hh) own started noInit hF witness ?_
  intro W base args ds gs before hval hW _ _ hL _
  have hW' : DataW.Whole enc Tryz.prog f.params.toList s.vars false W args.toList ds gs before := hW
  obtain ⟨p, q, hA0, hV, rfl, hfz, hnd⟩ := hW
  have hA : DataW.TrodAll enc Tryz.prog W 0 (fun _ => true) true f.params.toList args.toList ds p := hA0
  have hlt : ∀ x ∈ p, x.block < W.heap.size := fun x hx => hW'.lt x (by simp [hx])
  rw [hp] at hA
  have hlen : ds.length = ts.length := trodAll_length ts _ _ _ hA
  rw [hv] at hV
  obtain ⟨rfl, rfl⟩ := trodVars_none hV
  refine (walk H enc W base args ds p ?_ hA hlt (lay_of_laid hL)).mono fun e W' ⟨he, hb⟩ => ?_
  · intro j t v hj hva
    refine hval j t v ?_ hva
    rw [← hp] at hj
    simpa using hj
  · subst he
    exact ⟨_, rfl, law_post hp hres hv (by rw [List.append_nil]; exact hs H ds hlen) hr hW' hb⟩
end Go.Proofs.YtaglmmcjhlehjaaGreatDoor

namespace Go.Proofs.YtaglmmcjhlehjaaGreatDoor
open Go.ChangeShapes Go.WideShapes Go.ChangeAt Go.RowKit Go.Sort Go.Maps Go.Deep
set_option linter.unusedVariables false
set_option linter.unusedSimpArgs false

mutual
/-- What an expression weighs at least. -/
def Ex.bk : Ex → Nat
  | .mk d l => 6 + d.s.length + d.t.length + (d.labels.map fun s => s.length + 1).sum + (d.names.map fun s => s.length + 1).sum + bkL l
def bkL : List Ex → Nat
  | [] => 0
  | x :: l => x.bk + bkL l
end
theorem bkL_sum : ∀ l : List Ex, bkL l = (l.map Ex.bk).sum
  | [] => rfl
  | x :: l => by simp only [bkL, List.map_cons, List.sum_cons, bkL_sum l]
theorem sum_len (l : List Str) : (l.map fun s => s.length + 1).sum = (l.map List.length).sum + l.length := by
  induction l with
  | nil => rfl
  | cons x r ih => simp only [List.map_cons, List.sum_cons, List.length_cons, ih]; omega
mutual
theorem nodes_bk : ∀ e : Ex, e.nodes ≤ e.bk
  | .mk d l => by have := nodesL_bk l; simp only [Ex.nodes, Ex.bk]; omega
theorem nodesL_bk : ∀ l : List Ex, enodesL l ≤ bkL l
  | [] => by simp [enodesL, bkL]
  | x :: l => by have := nodes_bk x; have := nodesL_bk l; simp only [enodesL, bkL]; omega
end
mutual
theorem wt_bk : ∀ e : Ex, e.wt ≤ 40 * e.bk
  | .mk d l => by
    have h := wtL_bk l
    have h1 := sum_len d.labels
    have h2 := sum_len d.names
    simp only [Ex.wt, Ex.bk, ExD.own, h1, h2]
    omega
theorem wtL_bk : ∀ l : List Ex, wtL l ≤ 40 * bkL l
  | [] => by simp [wtL, bkL]
  | x :: l => by have := wt_bk x; have := wtL_bk l; simp only [wtL, bkL]; omega
end

section
variable {H : Type} {enc : TypeId × Value → H} {W : World} {base : Nat} {sp : Nat → Bool} {held : Bool}
theorem openW_strs {fuel : Nat} {cs : List Value} {x : DataW H × List MemPlace} (hf : DataW.trod enc Tryz.prog W base sp held fuel 22 cs = some x) :
    ∃ (A : Option Addr) (n c : Nat) (l : List Str), cs = [.slice A n c] ∧ n ≤ c ∧ c ≤ maxLen ∧ l.length = n ∧ Rd W 1 A n (strs l) ∧ (∀ y ∈ l, y.length ≤ maxLen) ∧ (l.map fun s => s.length + 1).sum + 1 ≤ Rows.uptoBulk x.1 := by
  obtain ⟨A, n, c, l, h1, h2, h3, h4, h5, hg, h6, h7⟩ := open_rowU (α := Str) (cells := fun b => [.string (bstr b)]) (good := fun y => y.length ≤ maxLen) (fun s => s.length + 1) (Rows.uptoBulk x.1) Tryz.underlying22 (by kernel_rfl : Tryz.prog.cellsOf 9 = 1) (fun _ => rfl)
    (fun n cs x hx _ => by
      obtain ⟨s, rfl, hxx, hw⟩ := DataW.trod_string Tryz.underlying9 hx
      exact ⟨s.data.toList, by rw [bstr_of], (by rw [Array.length_toList]; exact hw), by rw [hxx]; simp only [Rows.uptoBulk]; omega⟩) hf (by omega)
  exact ⟨A, n, c, l, h1, h2, h3, h4, by rw [← strs_of]; exact h5, hg, h7⟩

set_option maxRecDepth 100000 in
theorem openU_ex : ∀ (B : Nat), B ≤ 1048576 → ∀ (fuel : Nat) (cs : List Value) (x : DataW H × List MemPlace), DataW.trod enc Tryz.prog W base sp held fuel 25 cs = some x → Rows.uptoBulk x.1 ≤ B →
    ∃ t : Ex, t.cells = cs ∧ (t.In W ∧ t.Rg ∧ t.Sm) ∧ t.bk ≤ Rows.uptoBulk x.1
  | 0, _, fuel, cs, x, hx, hB => by have := bulk_pos x.1; omega
  | B + 1, hB4, fuel, cs, x, hx, hB => by
    obtain ⟨c0, c1, c2, c3, c4, c5, c6, c7, y0, y1, y2, y3, y4, y5, y6, y7, k, rfl, hxx, e0, e1, e2, e3, e4, e5, e6, e7⟩ := trod8 Tryz.underlying25 (by kernel_rfl) (by kernel_rfl) hx
    have p0 := bulk_pos y0.1
    have p1 := bulk_pos y1.1
    have p2 := bulk_pos y2.1
    rw [hxx] at hB ⊢
    simp only [Rows.uptoBulk, Rows.uptoBulkAll] at hB ⊢
    obtain ⟨kd, h0, _, _⟩ := DataW.trod_int Tryz.underlying3 e0
    obtain ⟨at_, h1, _, w1⟩ := DataW.trod_int Tryz.underlying3 e1
    obtain ⟨n, h2, _, w2⟩ := DataW.trod_int Tryz.underlying2 e2
    obtain ⟨s, h3, x3, w3⟩ := DataW.trod_string Tryz.underlying9 e3
    obtain ⟨t, h4, x4, w4⟩ := DataW.trod_string Tryz.underlying9 e4
    have b3 : s.data.toList.length + 1 ≤ Rows.uptoBulk y3.1 := by rw [x3]; simp only [Rows.uptoBulk]; omega
    have b4 : t.data.toList.length + 1 ≤ Rows.uptoBulk y4.1 := by rw [x4]; simp only [Rows.uptoBulk]; omega
    obtain ⟨lA, ln, lc, lb, h5, l1, l2, l3, l4, l5, l6⟩ := openW_strs e5
    obtain ⟨nA, nn, nc, nb, h6, n1, n2, n3, n4, n5, n6⟩ := openW_strs e6
    obtain ⟨pA, pn, pc, pl, h7, q1, q2, q3, q4, q5, q6, q7⟩ := open_rowU (α := Ex) (cells := Ex.cells) (good := fun t => t.In W ∧ t.Rg ∧ t.Sm) Ex.bk B Tryz.underlying23 (by kernel_rfl : Tryz.prog.cellsOf 25 = 8) Ex.cells_len
      (fun n cs x hx hb => openU_ex B (by omega) n cs x hx hb) e7 (by omega)
    simp only [List.cons.injEq, and_true] at h0 h1 h2 h3 h4 h5 h6 h7
    subst h0
    subst h1
    subst h2
    subst h3
    subst h4
    subst h5
    subst h6
    subst h7
    have m : maxLen = 9223372036854775807 := rfl
    have hl1 := sum_len lb
    have hl2 := sum_len nb
    have w1' : -9223372036854775808 ≤ at_ ∧ at_ ≤ 9223372036854775807 := by simpa [Lit.wf, IntKind.min, IntKind.max, IntKind.signed, IntKind.bits] using w1
    have w2' : n ≤ 9223372036854775807 := (show -9223372036854775808 ≤ n ∧ n ≤ 9223372036854775807 by simpa [Lit.wf, IntKind.min, IntKind.max, IntKind.signed, IntKind.bits] using w2).2
    refine ⟨.mk ⟨kd, at_, n, s.data.toList, t.data.toList, lA, ln, lc, lb, nA, nn, nc, nb, pA, pn, pc⟩ pl, by simp only [Ex.cells, ExD.cells, Ex.d, bstr_of], ⟨.mk _ _ l4 n4 q4 ⟨⟨l1, l2, ?_⟩, ⟨n1, n2, ?_⟩, ⟨q1, q2, ?_⟩, ?_, ?_, ?_, ?_⟩ (fun x hx => (q5 x hx).1), .mk _ _ w2' w1' (fun x hx => (q5 x hx).2.1), .mk _ _ ?_ ?_ (fun x hx => (q5 x hx).2.2)⟩, ?_⟩
    · show ln ≤ _; omega
    · show nn ≤ _; omega
    · show pn ≤ _; omega
    · show s.data.toList.length ≤ _; omega
    · show t.data.toList.length ≤ _; omega
    · exact l5
    · exact n5
    · show s.data.toList.length ≤ _; omega
    · show ln ≤ _; omega
    · simp only [Ex.bk, bkL_sum]
      omega
end
end Go.Proofs.YtaglmmcjhlehjaaGreatDoor

namespace Go.Proofs.YtaglmmcjhlehjaaGreatDoor
open Go.ChangeShapes Go.WideShapes Go.ChangeAt Go.RowKit
set_option linter.unusedVariables false

set_option maxRecDepth 100000 in
theorem lay_of_laid2 {W : World} (h : laidMetH Tryz.prog seatLaid W) : Lay W ∧ Tab W := by
  refine ⟨lay_of_laid h, ?_⟩
  have h' : laidMet Tryz.prog seatLaid W := h
  have h2 : laidMet Tryz.prog (("internal/strconv.uint64pow10", Lib.tabData .u64 Lib.pow10Tab) :: [("strconv.ErrRange", Rows.laid_strconv_ErrRange), ("strconv.ErrSyntax", Rows.laid_strconv_ErrSyntax)]) W := by
    have h3 := h'.tail.tail
    exact h3
  exact Lib.tabIs_of_head gTab (by kernel_rfl) Tryz.underlying168 Tryz.underlying130 (by kernel_rfl) (by kernel_rfl) h2
/-- What is to be walked of a law, the bound and the tied variables handed to the walk. -/
def LawWalkU (F : FuncId) (ts : List TypeId) : Prop :=
  ∀ (H : Type) (enc : TypeId × Value → H) (W : World) (base : Nat) (args : Array Value) (ds : List (DataW H)) (p : List MemPlace),
    (∀ (j : Nat) t v, ts[j]? = some t → args[j]? = some v → Value.okWide Tryz.prog W .any base t v) →
    DataW.TrodAll enc Tryz.prog W 0 (fun _ => true) true ts args.toList ds p → (∀ x ∈ p, x.block < W.heap.size) → Lay W ∧ Tab W → Rows.uptoBulkAll ds ≤ 1048576 →
    Calls Tryz.prog F args W fun e W' => e = .returned (.bool true) ∧ Below W.heap.size W W'

set_option maxRecDepth 100000 in
theorem law_liftedU {os : Os} (started : os.Started) {H : Type} {enc : TypeId × Value → H} {F : FuncId} {f : Func} {s : ChangeSpec} {ts : List TypeId} (G : Stop.Interp)
    (hF : Tryz.prog.funcs[F]? = some f) (noInit : Tryz.checked.prog.inits.idxOf? F = none) (hp : f.params.toList = ts) (hres : f.resultTypes = #[4]) (hv : s.vars = [])
    (hs : ∀ (H : Type) (ds : List (DataW H)), ds.length = ts.length → s.fn H ds = { results := [.lit (.bool true)], args := ds })
    (hr0 : (ts.all fun t => Tryz.prog.readableRec t && decide (t < Tryz.prog.types.size)) = true)
    (witness : ∃ (w : World) (tape : Tape) (i : Input), w.os = os ∧ (w.forCall tape i).Shaped Tryz.checked.prog ∧ i.vars = [] ∧ Input.okWide Tryz.checked.prog (w.forCall tape i) .any w.heap.size F i ∧
      (Rows.OpenSpec.upto s).preRow enc Tryz.checked.prog f [] false seatLaid (w.forCall tape i).memory i.args ∧ Assume.holds {} Tryz.checked.prog (lone (Frame.enter Tryz.checked.prog F i.args .normal) [] (w.forCall tape i)))
    (walk : LawWalkU F ts) :
    ReturnsInHanded {} Tryz.checked os F .any ((Rows.OpenSpec.upto s).preRow enc Tryz.prog f [] false seatLaid) (((Rows.OpenSpec.upto s).at G).post enc Tryz.prog f false true false false) := by
  have hr : ∀ t ∈ ts, Tryz.prog.readableRec t = true ∧ t < Tryz.prog.types.size := fun t ht => by
    have h := List.all_eq_true.1 hr0 t ht
    simpa using h
  refine returnsInHanded_of_row (C := Tryz.checked) (s := Rows.OpenSpec.upto s) own started noInit hF witness ?_
  intro W base args ds gs before hval hW _ hk _ hL _ _
  have hW' : DataW.Whole enc Tryz.prog f.params.toList s.vars false W args.toList ds gs before := hW
  obtain ⟨p, q, hA0, hV, rfl, hfz, hnd⟩ := hW
  have hA : DataW.TrodAll enc Tryz.prog W 0 (fun _ => true) true f.params.toList args.toList ds p := hA0
  have hlt : ∀ x ∈ p, x.block < W.heap.size := fun x hx => hW'.lt x (by simp [hx])
  rw [hp] at hA
  have hlen : ds.length = ts.length := trodAll_length ts _ _ _ hA
  rw [show (Rows.OpenSpec.upto s).vars = [] from hv] at hV
  obtain ⟨rfl, rfl⟩ := trodVars_none hV
  have hbulk : Rows.uptoBulkAll ds ≤ 1048576 := by
    have h := hk _ rfl
    rw [List.append_nil] at h
    exact of_decide_eq_true h
  refine (walk H enc W base args ds p ?_ hA hlt (lay_of_laid2 hL) hbulk).mono fun e W' ⟨he, hb⟩ => ?_
  · intro j t v hj hva
    refine hval j t v ?_ hva
    rw [← hp] at hj
    simpa using hj
  · subst he
    exact ⟨_, rfl, law_post hp hres hv (by rw [List.append_nil]; exact hs H ds hlen) hr hW' hb⟩
end Go.Proofs.YtaglmmcjhlehjaaGreatDoor

namespace Go.Proofs.YtaglmmcjhlehjaaGreatDoor
open Go.ChangeShapes Go.WideShapes Go.ChangeAt Go.RowKit
set_option linter.unusedVariables false

abbrev seatLaidS : List (String × DataW Unit) := [("math/bits.deBruijn32tab", Rows.laid_math_bits_deBruijn32tab), ("math/bits.deBruijn64tab", Rows.laid_math_bits_deBruijn64tab), ("internal/strconv.uint64pow10", Rows.laid_internal_strconv_uint64pow10), ("errors.errorType", Rows.laid_errors_errorType), ("strconv.ErrRange", Rows.laid_strconv_ErrRange), ("strconv.ErrSyntax", Rows.laid_strconv_ErrSyntax)]
theorem gETS : Tryz.prog.globalNamed "errors.errorType" = some 0 := by kernel_rfl
theorem rtETS : (Tryz.prog.cutTypes.find? (·.1 == "internal/reflectlite.rtype")).map (·.2) = some 136 := by kernel_rfl
theorem sizeTypesS : Tryz.prog.types.size = 239 := by kernel_rfl
theorem oneRowETS : ((List.range 239).filter fun t => Tryz.prog.rowNamed t [101, 114, 114, 111, 114]) = [31] := by kernel_rfl

set_option maxRecDepth 100000 in
theorem lay_of_laidS {W : World} (h : laidMetH Tryz.prog seatLaidS W) : Lay W ∧ Tab W ∧ ET W := by
  have h' : laidMet Tryz.prog seatLaid W ∧ handlesMet Tryz.prog [("errors.errorType", Rows.laid_errors_errorType)] W := h
  refine ⟨(lay_of_laid2 h'.1).1, (lay_of_laid2 h'.1).2, ?_⟩
  obtain ⟨name, u, ty, e1, e2, e3, e4, e5⟩ := h'.2 _ (List.mem_singleton.2 rfl)
  have en : name = [101, 114, 114, 111, 114] := (Option.some.inj e1).symm
  subst en
  obtain rfl := Option.some.inj (rtETS.symm.trans e2)
  have hm : ty ∈ (List.range 239).filter fun t => Tryz.prog.rowNamed t [101, 114, 114, 111, 114] := List.mem_filter.2 ⟨List.mem_range.2 (by rw [← sizeTypesS]; exact e3), e4⟩
  rw [oneRowETS] at hm
  obtain rfl := List.mem_singleton.1 hm
  have hh : typeHandle Tryz.prog 31 = hnd 31 := by kernel_rfl
  rw [hh] at e5
  have := World.var?_cell gETS e5 0
  simpa [ET] using this
theorem door_metS (os : Os) (args : Array Value) : laidMetH Tryz.prog seatLaidS ((World.doorLaid Tryz.prog 69 os).forCall (fun _ _ => 0) ⟨#[], args, []⟩).memory :=
  laidMetH_of_parts3 (fuel := 8) (laidMet_of_run' 8 (by kernel_rfl) (by kernel_rfl)) (by kernel_rfl) (by kernel_rfl)

/-- What is to be walked of a law, the bound and the tied variables handed to the walk. -/
def LawWalkS (F : FuncId) (ts : List TypeId) : Prop :=
  ∀ (H : Type) (enc : TypeId × Value → H) (W : World) (base : Nat) (args : Array Value) (ds : List (DataW H)) (p : List MemPlace),
    (∀ (j : Nat) t v, ts[j]? = some t → args[j]? = some v → Value.okWide Tryz.prog W .any base t v) →
    DataW.TrodAll enc Tryz.prog W 0 (fun _ => true) true ts args.toList ds p → (∀ x ∈ p, x.block < W.heap.size) → Lay W ∧ Tab W ∧ ET W → Rows.uptoBulkAll ds ≤ 1048576 →
    Calls Tryz.prog F args W fun e W' => e = .returned (.bool true) ∧ Below W.heap.size W W'

set_option maxRecDepth 100000 in
theorem law_liftedS {os : Os} (started : os.Started) {H : Type} {enc : TypeId × Value → H} {F : FuncId} {f : Func} {s : ChangeSpec} {ts : List TypeId} (G : Stop.Interp)
    (hF : Tryz.prog.funcs[F]? = some f) (noInit : Tryz.checked.prog.inits.idxOf? F = none) (hp : f.params.toList = ts) (hres : f.resultTypes = #[4]) (hv : s.vars = [])
    (hs : ∀ (H : Type) (ds : List (DataW H)), ds.length = ts.length → s.fn H ds = { results := [.lit (.bool true)], args := ds })
    (hr0 : (ts.all fun t => Tryz.prog.readableRec t && decide (t < Tryz.prog.types.size)) = true)
    (witness : ∃ (w : World) (tape : Tape) (i : Input), w.os = os ∧ (w.forCall tape i).Shaped Tryz.checked.prog ∧ i.vars = [] ∧ Input.okWide Tryz.checked.prog (w.forCall tape i) .any w.heap.size F i ∧
      (Rows.OpenSpec.upto s).preRow enc Tryz.checked.prog f [] false seatLaidS (w.forCall tape i).memory i.args ∧ Assume.holds {} Tryz.checked.prog (lone (Frame.enter Tryz.checked.prog F i.args .normal) [] (w.forCall tape i)))
    (walk : LawWalkS F ts) :
    ReturnsInHanded {} Tryz.checked os F .any ((Rows.OpenSpec.upto s).preRow enc Tryz.prog f [] false seatLaidS) (((Rows.OpenSpec.upto s).at G).post enc Tryz.prog f false true false false) := by
  have hr : ∀ t ∈ ts, Tryz.prog.readableRec t = true ∧ t < Tryz.prog.types.size := fun t ht => by
    have h := List.all_eq_true.1 hr0 t ht
    simpa using h
  refine returnsInHanded_of_row (C := Tryz.checked) (s := Rows.OpenSpec.upto s) own started noInit hF witness ?_
  intro W base args ds gs before hval hW _ hk _ hL _ _
  have hW' : DataW.Whole enc Tryz.prog f.params.toList s.vars false W args.toList ds gs before := hW
  obtain ⟨p, q, hA0, hV, rfl, hfz, hnd⟩ := hW
  have hA : DataW.TrodAll enc Tryz.prog W 0 (fun _ => true) true f.params.toList args.toList ds p := hA0
  have hlt : ∀ x ∈ p, x.block < W.heap.size := fun x hx => hW'.lt x (by simp [hx])
  rw [hp] at hA
  have hlen : ds.length = ts.length := trodAll_length ts _ _ _ hA
  rw [show (Rows.OpenSpec.upto s).vars = [] from hv] at hV
  obtain ⟨rfl, rfl⟩ := trodVars_none hV
  have hbulk : Rows.uptoBulkAll ds ≤ 1048576 := by
    have h := hk _ rfl
    rw [List.append_nil] at h
    exact of_decide_eq_true h
  refine (walk H enc W base args ds p ?_ hA hlt (lay_of_laidS hL) hbulk).mono fun e W' ⟨he, hb⟩ => ?_
  · intro j t v hj hva
    refine hval j t v ?_ hva
    rw [← hp] at hj
    simpa using hj
  · subst he
    exact ⟨_, rfl, law_post hp hres hv (by rw [List.append_nil]; exact hs H ds hlen) hr hW' hb⟩
end Go.Proofs.YtaglmmcjhlehjaaGreatDoor
