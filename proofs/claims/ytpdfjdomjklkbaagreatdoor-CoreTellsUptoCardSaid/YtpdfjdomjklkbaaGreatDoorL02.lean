/-
  How many nodes there are, by the code and by the document; the names that are free, in order, by the document.
  The law: the names that are free, how many nodes there are, whether two are alike.
-/
import Derived.Test.YtpdfjdomjklkbaaGreatDoorL01
import Derived.Test.YtpdfjdomjklkbaaGreatDoorL00
import Derived.Test.YtpdfjdomjklkbaaGreatDoorK00
import Derived.Deep.LoopGhost
import Derived.Deep.RegionHeld3
namespace Go.Proofs.YtpdfjdomjklkbaaGreatDoor
open Go.ChangeShapes Go.WideShapes Go.ChangeAt Go.RowKit Go.Sort
set_option linter.unusedVariables false
set_option linter.unusedSimpArgs false

theorem enodes_takeQ (l : List Ex) (k : Nat) (h : k < l.length) : enodesL (l.take (k + 1)) = enodesL (l.take k) + (l[k]).nodes := by
  rw [List.take_succ_eq_append_getElem h, enodesL_snoc]
theorem enodes_leQ (l : List Ex) (k : Nat) : enodesL (l.take k) ≤ enodesL l := by
  induction l generalizing k with
  | nil => simp
  | cons x l ih =>
    cases k with
    | zero => simp [enodesL]
    | succ k => have := ih k; simp only [List.take_succ_cons, enodesL]; omega
set_option maxRecDepth 100000 in
set_option maxHeartbeats 2000000 in
theorem nodesQ_any (w0 : World) (t : Ex) (hIn : t.In w0) : t.nodes ≤ 2000000 → ∀ (b o : Nat) (w : World), Below w0.heap.size w0 w → t.d.At w b o →
    Calls Tryz.prog 22 #[.pointer (some ⟨b, o, none⟩)] w fun e w' => e = .returned (.int .i64 t.nodes) ∧ Below w.heap.size w w' := by
  induction hIn with
  | mk d l nam par cap sub ih =>
  intro hnd b o w hb hAt
  have hII : (Ex.mk d l).In w0 := .mk d l nam par cap sub
  have hlen : l.length = d.pn := hII.len
  have hpn : d.pn ≤ 4000000 := cap.2.1.2.2
  have hnd' : 1 + enodesL l ≤ 2000000 := by simpa [Ex.nodes] using hnd
  have HI := Lib.hid (And.intro hII (And.intro hb (And.intro hAt hnd')))
  have HIH := Lib.hid ih
  have c5 : w.cell? ⟨b, o + 5, none⟩ = some (.slice d.pA d.pn d.pc) := hAt.c5
  rw [← hlen] at c5
  rw [show (Ex.mk d l).nodes = 1 + enodesL l by simp [Ex.nodes]]
  clear hII hnd hb hAt hnd' nam par cap sub ih
  go_enter Tryz.func22, Tryz.ntmps22
  go_wp2_with fail
  go_loopw [3, 4, 10] (fun n _ i wr => ∃ k : Nat, i = .int .i64 k ∧ k ≤ l.length ∧ n = .int .i64 ((1 + enodesL (l.take k) : Nat) : Int) ∧ Below w.heap.size w wr) (fun _ _ i _ => l.length - (intOf i).toNat)
  case atStart => exact ⟨0, rfl, Nat.zero_le _, by simp [enodesL], Below.refl _ _⟩
  case round =>
    obtain ⟨k, rfl, hk, rfl, hbr⟩ := hrel
    by_cases hlt : k < l.length
    · obtain ⟨pb, po, hpA, hat⟩ := HI.out.1.part (k := k) hlt
      have hak : (l[k]).d.At w0 pb (po + k * 6) := hat k hlt
      have ht := enodes_takeQ l k hlt
      have hle := enodes_leQ l (k + 1)
      have hbW := below_then HI.out.2.1 hbr
      have hnk : (l[k]).nodes ≤ 2000000 := by have := HI.out.2.2.2; omega
      have HC := Lib.hid (HIH.out l[k] (List.getElem_mem hlt) hnk pb (po + k * 6) wr hbW (hak.lower hbW))
      have c5' := cell_below hbr c5
      have hpA' : d.pA = some ⟨pb, po, none⟩ := hpA
      rw [hpA'] at c5'
      obtain ⟨S, hS⟩ : ∃ S, enodesL (l.take k) = S := ⟨_, rfl⟩
      obtain ⟨Q, hQ⟩ : ∃ Q, (l[k]).nodes = Q := ⟨_, rfl⟩
      rw [hQ] at HC
      rw [hS, hQ] at ht
      have HT := Lib.hid ht
      have HB := Lib.hid hbr
      have n0 : (0 : Int) ≤ (k : Int) := by omega
      have n1 : (k : Int) < (l.length : Int) := by omega
      have n3 : (S : Int) + (Q : Int) ≤ 2000000 := by have := HI.out.2.2.2; omega
      have n2 : (l.length : Int) ≤ 4000000 := by omega
      rw [hS]
      clear ht hle hbW hnk hbr hat hak hpA hpA' hS hQ c5
      go_wp2_with (go_at_call 22; (with_reducible refine HC.out.mono ?_); rintro e w2 ⟨rfl, hb2⟩; have HB2 := Lib.hid (below_then HB.out hb2); clear hb2)
      go_roundw
      case rel => exact ⟨k + 1, by go_num, by omega, by rw [HT.out]; go_num, HB2.out⟩
      case measure => simp [intOf] <;> omega
    · have hkk : k = l.length := by omega
      subst hkk
      rw [List.take_length]
      have HB := Lib.hid hbr
      clear hbr hk
      go_wp2_with fail
      go_returns
      exact ⟨rfl, HB.out⟩
theorem NodesQ_any (w : World) (t : Ex) (hIn : t.In w) (hn : t.nodes ≤ 2000000) :
    Calls Tryz.prog 9 #[.agg t.d.arr] w fun e w' => e = .returned (.int .i64 t.nodes) ∧ Below w.heap.size w w' := by
  have hb : Below w.heap.size w (w.alloc (.cells t.d.arr 25)) := (Below.refl _ _).alloc (Nat.le_refl _) _
  have HC := Lib.hid (nodesQ_any w t hIn hn w.heap.size 0 _ hb (ex_box w t.d))
  have HB := Lib.hid hb
  clear hb hIn hn
  go_enter Tryz.func9, Tryz.ntmps9
  go_wp2_with (go_at_call 22; (with_reducible refine HC.out.mono ?_); rintro e w2 ⟨rfl, hb2⟩; have HB2 := Lib.hid (below_then HB.out hb2); clear hb2)
  go_returns
  exact ⟨rfl, HB2.out⟩

set_option maxRecDepth 100000 in
set_option maxHeartbeats 2000000 in
theorem refNodes_any (w0 : World) (t : Ex) (hIn : t.In w0) : t.nodes ≤ 2000000 → ∀ (w : World), Below w0.heap.size w0 w →
    Calls Tryz.prog 10 #[.agg t.d.arr] w fun e w' => e = .returned (.int .i64 t.nodes) ∧ Below w.heap.size w w' := by
  induction hIn with
  | mk d l nam par cap sub ih =>
  intro hnd w hb
  have hII : (Ex.mk d l).In w0 := .mk d l nam par cap sub
  have hlen : l.length = d.pn := hII.len
  have hpn : d.pn ≤ 4000000 := cap.2.1.2.2
  have hnd' : 1 + enodesL l ≤ 2000000 := by simpa [Ex.nodes] using hnd
  have hb1 : Below w.heap.size w (w.alloc (.cells d.arr 25)) := (Below.refl _ _).alloc (Nat.le_refl _) _
  have c5 : (w.alloc (.cells d.arr 25)).cell? ⟨w.heap.size, 0 + 5, none⟩ = some (.slice d.pA d.pn d.pc) := (ex_box w d).c5
  rw [← hlen] at c5
  have HI := Lib.hid (And.intro hII (And.intro (below_then hb hb1) (And.intro hb1 hnd')))
  have HIH := Lib.hid ih
  rw [show (Ex.mk d l).nodes = 1 + enodesL l by simp [Ex.nodes]]
  show Calls Tryz.prog 10 #[.agg d.arr] w _
  clear hII hnd hb hb1 hnd' nam par cap sub ih
  go_enter Tryz.func10, Tryz.ntmps10
  go_upto_region 1 with fail
  obtain ⟨bx, hbx⟩ : ∃ bx, w.heap.size = bx := ⟨_, rfl⟩
  rw [hbx] at c5
  try rw [hbx]
  clear hbx
  generalize (w.alloc (.cells d.arr 25)) = w1 at *
  go_wp2_with fail
  go_loopw [3, 4] (fun n i wr => ∃ k : Nat, i = .int .i64 k ∧ k ≤ l.length ∧ n = .int .i64 ((1 + enodesL (l.take k) : Nat) : Int) ∧ Below w1.heap.size w1 wr) (fun _ i _ => l.length - (intOf i).toNat)
  case atStart => exact ⟨0, rfl, Nat.zero_le _, by simp [enodesL], Below.refl _ _⟩
  case round =>
    obtain ⟨k, rfl, hk, rfl, hbr⟩ := hrel
    by_cases hlt : k < l.length
    · obtain ⟨pb, po, hpA, hat⟩ := HI.out.1.part (k := k) hlt
      have hak : (l[k]).d.At w0 pb (po + k * 6) := hat k hlt
      have ht := enodes_takeQ l k hlt
      have hle := enodes_leQ l (k + 1)
      have hbW := below_then HI.out.2.1 hbr
      have hnk : (l[k]).nodes ≤ 2000000 := by have := HI.out.2.2.2; omega
      have HC := Lib.hid (HIH.out l[k] (List.getElem_mem hlt) hnk wr hbW)
      obtain ⟨p0, p1, p2, p3, p4, p5⟩ := hak.lower hbW
      have c5' := cell_below hbr c5
      have hpA' : d.pA = some ⟨pb, po, none⟩ := hpA
      rw [hpA'] at c5'
      obtain ⟨S, hS⟩ : ∃ S, enodesL (l.take k) = S := ⟨_, rfl⟩
      obtain ⟨Q, hQ⟩ : ∃ Q, (l[k]).nodes = Q := ⟨_, rfl⟩
      rw [hQ] at HC
      rw [hS, hQ] at ht
      obtain ⟨dx, hdx⟩ : ∃ dx, (l[k]).d = dx := ⟨_, rfl⟩
      rw [hdx] at p0 p1 p2 p3 p4 p5 HC
      have HT := Lib.hid ht
      have HB := Lib.hid hbr
      have n0 : (0 : Int) ≤ (k : Int) := by omega
      have n1 : (k : Int) < (l.length : Int) := by omega
      have n3 : (S : Int) + (Q : Int) ≤ 2000000 := by have := HI.out.2.2.2; omega
      have n2 : (l.length : Int) ≤ 4000000 := by omega
      rw [hS]
      clear ht hle hbW hnk hbr hat hak hpA hpA' hS hQ c5 hdx
      go_wp2_with (go_at_call 10; (with_reducible refine HC.out.mono ?_); rintro e w2 ⟨rfl, hb2⟩; have HB2 := Lib.hid (below_then HB.out hb2); clear hb2)
      go_roundw
      case rel => exact ⟨k + 1, by go_num, by omega, by rw [HT.out]; go_num, HB2.out⟩
      case measure => simp [intOf] <;> omega
    · have hkk : k = l.length := by omega
      subst hkk
      rw [List.take_length]
      have HB := Lib.hid hbr
      have c5' := cell_below hbr c5
      have n2 : (l.length : Int) ≤ 4000000 := by omega
      clear hbr hk c5
      go_wp2_with fail
      go_returns
      exact ⟨rfl, below_then HI.out.2.2.1 HB.out⟩

/-- The names that are free, in order, none twice. -/
def FreR (t : Ex) (w : World) (e : Ending) (w' : World) : Prop := ∃ A c ss, e = .returned (.slice A ss.length c) ∧ w'.ownsRow w.heap.size 9 1 (.slice A ss.length c) ss.length (strs ss) ∧ inOrder ss ∧ (∀ x, x ∈ ss ↔ t.freeB x = true) ∧ ss.length ≤ t.nodes ∧ Below w.heap.size w w'
theorem refFree_any (w0 : World) (t : Ex) (hIn : t.In w0) (w : World) (hb : Below w0.heap.size w0 w) (hnd : t.nodes ≤ 4000000) :
    Calls Tryz.prog 8 #[.agg t.d.arr] w (FreR t w) := by
  have hb1 : Below w.heap.size w (w.alloc (.cells t.d.arr 25)) := (Below.refl _ _).alloc (Nat.le_refl _) _
  have HF := Lib.hid (rfree_any w0 t hIn _ (below_then hb hb1) hnd)
  have HB := Lib.hid hb1
  obtain ⟨c0, c1, c2, c3, c4, c5⟩ := ex_box w t.d
  have HND := Lib.hid hnd
  clear hb1 hIn hb hnd
  go_enter Tryz.func8, Tryz.ntmps8
  go_wp2_with fail
  refine HF.out.mono ?_
  rintro e w2 ⟨v, ss, rfl, hown, hm, hl, hb2⟩
  obtain ⟨A, c, rfl, _⟩ := own_cap hown
  have HO := Lib.hid (refOf_any A ss ss.length c w2 (Rd.of_own hown) (Nat.le_trans hl HND.out))
  have H2 := Lib.hid (below_then HB.out hb2)
  have HM := Lib.hid (And.intro hm hl)
  clear hb2 HF hown hm hl c0 c1 c2 c3 c4 c5
  go_wp2_with fail
  refine HO.out.mono ?_
  rintro e w3 ⟨v, rfl, hown, hb3⟩
  obtain ⟨A3, c3, rfl, _⟩ := own_cap hown
  have H3 := Lib.hid (below_then H2.out hb3)
  have HW := Lib.hid (own_monoZ hown H2.out.size)
  clear hb3 hown HO
  go_wp2_with fail
  go_returns
  exact ⟨A3, c3, setOf ss, rfl, HW.out, setOf_order ss, fun x => (setOf_mem ss x).trans (HM.out.1 x), Nat.le_trans (setOf_length_le ss) HM.out.2, H3.out⟩
end Go.Proofs.YtpdfjdomjklkbaaGreatDoor

namespace Go.Proofs.YtpdfjdomjklkbaaGreatDoor
open Go.ChangeShapes Go.WideShapes Go.ChangeAt Go.RowKit Go.Sort
set_option linter.unusedVariables false
set_option linter.unusedSimpArgs false

/-- All names are short. -/
inductive Ex.Ln : Ex → Prop
  | mk (d : ExD) (l : List Ex) (h : d.s.length ≤ 4000000) (sub : ∀ x ∈ l, Ex.Ln x) : Ex.Ln (.mk d l)
theorem Ex.In.ln {w : World} {t : Ex} (h : t.In w) : t.Ln := by
  induction h with
  | mk d l nam par cap sub ih => exact .mk d l cap.2.2.1 ih
theorem freeLB_ex (d : ExD) (x : Str) : ∀ (l : List Ex) (i : Nat), freeLB d l i x = true → ∃ y ∈ l, y.freeB x = true
  | [], _, h => by simp [freeLB] at h
  | y :: l, i, h => by
    simp only [freeLB, Bool.or_eq_true, Bool.and_eq_true] at h
    rcases h with h | h
    · exact ⟨y, List.mem_cons_self .., h.1⟩
    · obtain ⟨z, hz, hf⟩ := freeLB_ex d x l (i + 1) h
      exact ⟨z, List.mem_cons_of_mem _ hz, hf⟩
theorem free_ln {t : Ex} (h : t.Ln) (x : Str) : t.freeB x = true → x.length ≤ 4000000 := by
  induction h with
  | mk d l hs sub ih =>
  intro hf
  have hf' : ((decide (d.kind = 3) && decide (x = d.s)) || freeLB d l 0 x) = true := hf
  rw [Bool.or_eq_true, Bool.and_eq_true] at hf'
  rcases hf' with h | h
  · have : x = d.s := by simpa using h.2
    rw [this]; exact hs
  · obtain ⟨y, hy, hfy⟩ := freeLB_ex d x l 0 h
    exact ih y hy hfy

def FrN (t : Ex) (n : Nat) (ss : List Str) : Prop := n ≤ 4000000 ∧ ss.length = n ∧ inOrder ss ∧ ∀ x, x ∈ ss ↔ t.freeB x = true
theorem FrN.one {t : Ex} {n m : Nat} {a b : List Str} (h : FrN t n a) (k : FrN t m b) : a = b := inOrder_ext h.2.2.1 k.2.2.1 (fun x => (h.2.2.2 x).trans (k.2.2.2 x).symm)
theorem FreeN_any (t : Ex) (w : World) (hIn : t.In w) (hnd : t.nodes ≤ 4000000) :
    Calls Tryz.prog 7 #[.agg t.d.arr] w fun e w' => ∃ A n c ss, e = .returned (.slice A n c) ∧ Rd w' 1 A n (strs ss) ∧ n ≤ 4000000 ∧ FrN t n ss ∧ Below w.heap.size w w' := by
  refine (Free_any t w hIn hnd).mono ?_
  rintro e w' ⟨A, n, c, ss, rfl, hown, hn, h1, h2, hb, _, ho⟩
  have hr := Rd.of_own hown
  have hl := rd_len hr
  exact ⟨A, n, c, ss, rfl, hr, hn, ⟨hn, hl, ho, fun x => ⟨fun h => (h1 x h).1, fun h => h2 x (by have := free_ln hIn.ln x h; unfold maxLen; omega) h⟩⟩, hb⟩
theorem refFreeN_any (w0 : World) (t : Ex) (hIn : t.In w0) (w : World) (hb : Below w0.heap.size w0 w) (hnd : t.nodes ≤ 4000000) :
    Calls Tryz.prog 8 #[.agg t.d.arr] w fun e w' => ∃ A c ss, e = .returned (.slice A ss.length c) ∧ Rd w' 1 A ss.length (strs ss) ∧ ss.length ≤ 4000000 ∧ FrN t ss.length ss ∧ Below w.heap.size w w' := by
  refine (refFree_any w0 t hIn w hb hnd).mono ?_
  rintro e w' ⟨A, c, ss, rfl, hown, ho, hm, hl, hb⟩
  exact ⟨A, c, ss, rfl, Rd.of_own hown, Nat.le_trans hl hnd, ⟨Nat.le_trans hl hnd, rfl, ho, hm⟩, hb⟩

set_option maxRecDepth 100000 in
set_option maxHeartbeats 8000000 in
theorem tells_any (w : World) (t u : Ex) (hI : t.In w) (hU : u.In w) (hnt : t.nodes ≤ 2000000) (hUP : ∀ V, Below w.heap.size w V → Calls Tryz.prog 4 #[] V fun e w' => e = .returned (.bool true) ∧ Below V.heap.size V w') :
    Calls Tryz.prog 3 #[.agg t.d.arr, .agg u.d.arr] w fun e w' => e = .returned (.bool true) ∧ Below w.heap.size w w' := by
  have hb0 : Below w.heap.size w (w.alloc (.cells t.d.arr 25)) := (Below.refl _ _).alloc (Nat.le_refl _) _
  have hx0 := ex_box w t.d
  have hb1 : Below w.heap.size w ((w.alloc (.cells t.d.arr 25)).alloc (.cells u.d.arr 25)) := hb0.alloc hb0.size _
  have hb01 : Below (w.alloc (.cells t.d.arr 25)).heap.size (w.alloc (.cells t.d.arr 25)) ((w.alloc (.cells t.d.arr 25)).alloc (.cells u.d.arr 25)) := (Below.refl _ _).alloc (Nat.le_refl _) _
  have hx1 := hx0.lower hb01
  have hy1 := ex_box (w.alloc (.cells t.d.arr 25)) u.d
  have hsz : (w.alloc (.cells t.d.arr 25)).heap.size = w.heap.size + 1 := by simp
  rw [hsz] at hy1
  have HE := Lib.hid (And.intro hI (And.intro hU (And.intro hnt hUP)))
  have HB1 := Lib.hid hb1
  clear hI hU hnt hUP hb0 hb1 hb01 hx0 hsz
  show Calls Tryz.prog 3 #[.agg t.d.arr, .agg u.d.arr] w _
  go_enter Tryz.func3, Tryz.ntmps3
  go_upto_region 1 with fail
  obtain ⟨b1, hb1⟩ : ∃ b, w.heap.size = b := ⟨_, rfl⟩
  rw [hb1] at hx1 hy1
  try rw [hb1]
  obtain ⟨b2, hb2⟩ : ∃ b, b1 + 1 = b := ⟨_, rfl⟩
  rw [hb2] at hy1
  try rw [hb2]
  clear hb1 hb2
  generalize ((w.alloc (.cells t.d.arr 25)).alloc (.cells u.d.arr 25)) = w1 at *
  have HXY := Lib.hid (fun V (h : Below w1.heap.size w1 V) => And.intro (hx1.lower h) (hy1.lower h))
  have HT1 := Lib.hid (show t.In w1 from HE.out.1.lower HB1.out)
  have HU1 := Lib.hid (show u.In w1 from HE.out.2.1.lower HB1.out)
  clear hx1 hy1
  go_wp2_with fail
  refine (HE.out.2.2.2 w1 HB1.out).mono ?_
  rintro e w2 ⟨rfl, hb2⟩
  have HB2 := Lib.hid hb2
  obtain ⟨⟨c0, c1, c2, c3, c4, c5⟩, ⟨f0, f1, f2, f3, f4, f5⟩⟩ := HXY.out _ hb2
  have HFW := Lib.hid (show Calls Tryz.prog 5 #[.agg #[.int .i64 t.d.kind, .int .i64 t.d.n, .string (bstr t.d.s), .string (bstr t.d.t), .slice t.d.nA t.d.nn t.d.nc, .slice t.d.pA t.d.pn t.d.pc]] w2 fun e w' => (∃ v : Bool, e = .returned (.bool v)) ∧ Below w2.heap.size w2 w' from Few_any w1 t HT1.out w2 hb2)
  clear hb2
  go_wp2_with fail
  refine HFW.out.mono ?_
  rintro e w3 ⟨⟨bf, rfl⟩, hb3⟩
  have HB3 := Lib.hid (below_then HB2.out hb3)
  clear c0 c1 c2 c3 c4 c5 f0 f1 f2 f3 f4 f5 hb3 HFW
  obtain ⟨⟨c0, c1, c2, c3, c4, c5⟩, ⟨f0, f1, f2, f3, f4, f5⟩⟩ := HXY.out _ HB3.out
  have HFU := Lib.hid (show Calls Tryz.prog 5 #[.agg #[.int .i64 u.d.kind, .int .i64 u.d.n, .string (bstr u.d.s), .string (bstr u.d.t), .slice u.d.nA u.d.nn u.d.nc, .slice u.d.pA u.d.pn u.d.pc]] w3 fun e w' => (∃ v : Bool, e = .returned (.bool v)) ∧ Below w3.heap.size w3 w' from Few_any w1 u HU1.out w3 HB3.out)
  go_wp2_with fail
  refine HFU.out.mono ?_
  rintro e w4 ⟨⟨bg, rfl⟩, hb4⟩
  have HB14 := Lib.hid (below_then HB3.out hb4)
  clear c0 c1 c2 c3 c4 c5 f0 f1 f2 f3 f4 f5 hb4 HFU
  cases bf with
  | false =>
    go_wp2_with fail
    go_returns
    exact ⟨rfl, below_then HB1.out HB14.out⟩
  | true =>
  cases bg with
  | false =>
    go_wp2_with fail
    go_returns
    exact ⟨rfl, below_then HB1.out HB14.out⟩
  | true =>
  have HT4 := Lib.hid (show t.In w4 from HT1.out.lower HB14.out)
  have HU4 := Lib.hid (show u.In w4 from HU1.out.lower HB14.out)
  have HBz := Lib.hid (below_then HB1.out HB14.out)
  have HF0 := Lib.hid (fun V (h : Below w4.heap.size w4 V) => FreeN_any t V (HT4.out.lower h) (by have := HE.out.2.2.1; omega))
  have HR0 := Lib.hid (fun V (h : Below w4.heap.size w4 V) => refFreeN_any w4 t HT4.out V h (by have := HE.out.2.2.1; omega))
  have HN0 := Lib.hid (fun V (h : Below w4.heap.size w4 V) => NodesQ_any V t (HT4.out.lower h) HE.out.2.2.1)
  have HM0 := Lib.hid (fun V (h : Below w4.heap.size w4 V) => refNodes_any w4 t HT4.out HE.out.2.2.1 V h)
  have HQ0 := Lib.hid (fun V (h : Below w4.heap.size w4 V) => Same_any t u V (HT4.out.lower h) (HU4.out.lower h))
  have HP0 := Lib.hid (fun V (h : Below w4.heap.size w4 V) => same14_any w4 t HT4.out u HU4.out V h)
  have HO0 := Lib.hid (fun V (h : Below w4.heap.size w4 V) => (Same_any t t V (HT4.out.lower h) (HT4.out.lower h)).mono (R' := fun e w' => e = .returned (.bool true) ∧ Below V.heap.size V w') (fun e w' h => ⟨by rw [h.1, eqB_true (eqv_refl t)], h.2⟩))
  have HTX := Lib.hid (fun V (A B : Option Addr) (ss s2 : List Str) (n c c2 : Nat) (h1 : Rd V 1 A n (strs ss)) (h2 : Rd V 1 B s2.length (strs s2)) (k1 : n ≤ 4000000 ∧ FrN t n ss) (k2 : s2.length ≤ 4000000 ∧ FrN t s2.length s2) => (Texts05_any A B ss s2 n s2.length c c2 V h1 h2 (by have := k1.1; omega) (by have := k2.1; omega)).mono (R' := fun e w' => e = .returned (.bool true) ∧ Below V.heap.size V w') (fun e w' h => ⟨by rw [h.1, decide_eq_true (FrN.one k1.2 k2.2)], h.2⟩))
  have HSB := Lib.hid (fun V (h : Below w4.heap.size w4 V) => HXY.out V (below_then HB14.out h))
  obtain ⟨eb, heb⟩ : ∃ b, eqB t u = b := ⟨_, rfl⟩
  rw [heb] at HQ0 HP0
  obtain ⟨nd, hnd⟩ : ∃ b, t.nodes = b := ⟨_, rfl⟩
  rw [hnd] at HN0 HM0
  clear HT4 HU4 HT1 HU1 HXY HB14 HB1 HB2 HB3 heb hnd HE
  obtain ⟨d1, hd1⟩ : ∃ d, t.d = d := ⟨_, rfl⟩
  obtain ⟨d2, hd2⟩ : ∃ d, u.d = d := ⟨_, rfl⟩
  rw [hd1] at HF0 HR0 HN0 HM0 HQ0 HP0 HO0 HSB
  rw [hd2] at HQ0 HP0 HSB
  have HF := Lib.hid (fun V (h : Below w4.heap.size w4 V) => (show Calls Tryz.prog 7 #[.agg #[.int .i64 d1.kind, .int .i64 d1.n, .string (bstr d1.s), .string (bstr d1.t), .slice d1.nA d1.nn d1.nc, .slice d1.pA d1.pn d1.pc]] V _ from HF0.out V h))
  have HR := Lib.hid (fun V (h : Below w4.heap.size w4 V) => (show Calls Tryz.prog 8 #[.agg #[.int .i64 d1.kind, .int .i64 d1.n, .string (bstr d1.s), .string (bstr d1.t), .slice d1.nA d1.nn d1.nc, .slice d1.pA d1.pn d1.pc]] V _ from HR0.out V h))
  have HN := Lib.hid (fun V (h : Below w4.heap.size w4 V) => (show Calls Tryz.prog 9 #[.agg #[.int .i64 d1.kind, .int .i64 d1.n, .string (bstr d1.s), .string (bstr d1.t), .slice d1.nA d1.nn d1.nc, .slice d1.pA d1.pn d1.pc]] V _ from HN0.out V h))
  have HM := Lib.hid (fun V (h : Below w4.heap.size w4 V) => (show Calls Tryz.prog 10 #[.agg #[.int .i64 d1.kind, .int .i64 d1.n, .string (bstr d1.s), .string (bstr d1.t), .slice d1.nA d1.nn d1.nc, .slice d1.pA d1.pn d1.pc]] V _ from HM0.out V h))
  have HQ := Lib.hid (fun V (h : Below w4.heap.size w4 V) => (show Calls Tryz.prog 11 #[.agg #[.int .i64 d1.kind, .int .i64 d1.n, .string (bstr d1.s), .string (bstr d1.t), .slice d1.nA d1.nn d1.nc, .slice d1.pA d1.pn d1.pc], .agg #[.int .i64 d2.kind, .int .i64 d2.n, .string (bstr d2.s), .string (bstr d2.t), .slice d2.nA d2.nn d2.nc, .slice d2.pA d2.pn d2.pc]] V _ from HQ0.out V h))
  have HP := Lib.hid (fun V (h : Below w4.heap.size w4 V) => (show Calls Tryz.prog 12 #[.agg #[.int .i64 d1.kind, .int .i64 d1.n, .string (bstr d1.s), .string (bstr d1.t), .slice d1.nA d1.nn d1.nc, .slice d1.pA d1.pn d1.pc], .agg #[.int .i64 d2.kind, .int .i64 d2.n, .string (bstr d2.s), .string (bstr d2.t), .slice d2.nA d2.nn d2.nc, .slice d2.pA d2.pn d2.pc]] V _ from HP0.out V h))
  have HO := Lib.hid (fun V (h : Below w4.heap.size w4 V) => (show Calls Tryz.prog 11 #[.agg #[.int .i64 d1.kind, .int .i64 d1.n, .string (bstr d1.s), .string (bstr d1.t), .slice d1.nA d1.nn d1.nc, .slice d1.pA d1.pn d1.pc], .agg #[.int .i64 d1.kind, .int .i64 d1.n, .string (bstr d1.s), .string (bstr d1.t), .slice d1.nA d1.nn d1.nc, .slice d1.pA d1.pn d1.pc]] V _ from HO0.out V h))
  have HSA := Lib.hid (fun V (h : Below w4.heap.size w4 V) => (show V.cell? ⟨b1, 0, none⟩ = some (.int .i64 d1.kind) ∧ V.cell? ⟨b1, 1, none⟩ = some (.int .i64 d1.n) ∧ V.cell? ⟨b1, 2, none⟩ = some (.string (bstr d1.s)) ∧ V.cell? ⟨b1, 3, none⟩ = some (.string (bstr d1.t)) ∧ V.cell? ⟨b1, 4, none⟩ = some (.slice d1.nA d1.nn d1.nc) ∧ V.cell? ⟨b1, 5, none⟩ = some (.slice d1.pA d1.pn d1.pc) ∧ V.cell? ⟨b2, 0, none⟩ = some (.int .i64 d2.kind) ∧ V.cell? ⟨b2, 1, none⟩ = some (.int .i64 d2.n) ∧ V.cell? ⟨b2, 2, none⟩ = some (.string (bstr d2.s)) ∧ V.cell? ⟨b2, 3, none⟩ = some (.string (bstr d2.t)) ∧ V.cell? ⟨b2, 4, none⟩ = some (.slice d2.nA d2.nn d2.nc) ∧ V.cell? ⟨b2, 5, none⟩ = some (.slice d2.pA d2.pn d2.pc) from by
    obtain ⟨⟨c0, c1, c2, c3, c4, c5⟩, ⟨f0, f1, f2, f3, f4, f5⟩⟩ := HSB.out V h
    exact ⟨c0, c1, c2, c3, c4, c5, f0, f1, f2, f3, f4, f5⟩))
  clear HF0 HR0 HN0 HM0 HQ0 HP0 HO0 HSB hd1 hd2
  go_upto_region 6 with fail
  go_wp2_with fail
  have HB4 := Lib.hid (below_drew1 w4)
  have HS4 := Lib.hid (HSA.out _ (below_drew1 w4))
  go_region_held3 (fun V => V.cell? ⟨b1, 0, none⟩ = some (.int .i64 d1.kind) ∧ V.cell? ⟨b1, 1, none⟩ = some (.int .i64 d1.n) ∧ V.cell? ⟨b1, 2, none⟩ = some (.string (bstr d1.s)) ∧ V.cell? ⟨b1, 3, none⟩ = some (.string (bstr d1.t)) ∧ V.cell? ⟨b1, 4, none⟩ = some (.slice d1.nA d1.nn d1.nc) ∧ V.cell? ⟨b1, 5, none⟩ = some (.slice d1.pA d1.pn d1.pc) ∧ V.cell? ⟨b2, 0, none⟩ = some (.int .i64 d2.kind) ∧ V.cell? ⟨b2, 1, none⟩ = some (.int .i64 d2.n) ∧ V.cell? ⟨b2, 2, none⟩ = some (.string (bstr d2.s)) ∧ V.cell? ⟨b2, 3, none⟩ = some (.string (bstr d2.t)) ∧ V.cell? ⟨b2, 4, none⟩ = some (.slice d2.nA d2.nn d2.nc) ∧ V.cell? ⟨b2, 5, none⟩ = some (.slice d2.pA d2.pn d2.pc))
    (first | with_reducible exact HS4.out | with_reducible exact HS5.out | with_reducible exact HS6.out | with_reducible exact HS7.out | with_reducible exact HS8.out | with_reducible exact HS9.out | with_reducible exact HS10.out | with_reducible exact HS11.out | with_reducible exact HS12.out | fail)
    (first
    | (go_at_call 7; (first | (refine (HF.out _ HB4.out).mono ?_; rintro e w5 ⟨A, n, c, ss, rfl, hrd, hn4, hmem, hb⟩; have HB5 := Lib.hid (below_then HB4.out hb); have HS5 := Lib.hid (HSA.out _ HB5.out); have HRF := Lib.hid hrd; have HNF := Lib.hid (And.intro hn4 hmem); clear hb hrd hn4 hmem) | (refine (HF.out _ HB5.out).mono ?_; rintro e w6 ⟨A, n, c, ss, rfl, hrd, hn4, hmem, hb⟩; have HBB6 := Lib.hid hb; have HB6 := Lib.hid (below_then HB5.out hb); have HS6 := Lib.hid (HSA.out _ HB6.out); have HRF := Lib.hid hrd; have HNF := Lib.hid (And.intro hn4 hmem); clear hb hrd hn4 hmem)))
    | (go_at_call 8; (first | (refine (HR.out _ HB4.out).mono ?_; rintro e w5 ⟨B, c2, s2, rfl, hrd, hn4, hmem, hb⟩; have HB5 := Lib.hid (below_then HB4.out hb); have HS5 := Lib.hid (HSA.out _ HB5.out); have HRR := Lib.hid hrd; have HNR := Lib.hid (And.intro hn4 hmem); clear hb hrd hn4 hmem) | (refine (HR.out _ HB5.out).mono ?_; rintro e w6 ⟨B, c2, s2, rfl, hrd, hn4, hmem, hb⟩; have HBB6 := Lib.hid hb; have HB6 := Lib.hid (below_then HB5.out hb); have HS6 := Lib.hid (HSA.out _ HB6.out); have HRR := Lib.hid hrd; have HNR := Lib.hid (And.intro hn4 hmem); clear hb hrd hn4 hmem)))
    | (go_at_call 6; (first | (refine (HTX.out _ A B ss s2 n c c2 (HRF.out.below HBB6.out) HRR.out HNF.out HNR.out).mono ?_; rintro e w7 ⟨rfl, hb⟩; have HB7 := Lib.hid (below_then HB6.out hb); have HS7 := Lib.hid (HSA.out _ HB7.out); clear hb) | (refine (HTX.out _ A B ss s2 n c c2 HRF.out (HRR.out.below HBB6.out) HNF.out HNR.out).mono ?_; rintro e w7 ⟨rfl, hb⟩; have HB7 := Lib.hid (below_then HB6.out hb); have HS7 := Lib.hid (HSA.out _ HB7.out); clear hb)))
    | (go_at_call 9; (first | (refine (HN.out _ HB7.out).mono ?_; rintro e w8 ⟨rfl, hb⟩; have HB8 := Lib.hid (below_then HB7.out hb); have HS8 := Lib.hid (HSA.out _ HB8.out); clear hb) | (refine (HN.out _ HB8.out).mono ?_; rintro e w9 ⟨rfl, hb⟩; have HB9 := Lib.hid (below_then HB8.out hb); have HS9 := Lib.hid (HSA.out _ HB9.out); clear hb)))
    | (go_at_call 10; (first | (refine (HM.out _ HB7.out).mono ?_; rintro e w8 ⟨rfl, hb⟩; have HB8 := Lib.hid (below_then HB7.out hb); have HS8 := Lib.hid (HSA.out _ HB8.out); clear hb) | (refine (HM.out _ HB8.out).mono ?_; rintro e w9 ⟨rfl, hb⟩; have HB9 := Lib.hid (below_then HB8.out hb); have HS9 := Lib.hid (HSA.out _ HB9.out); clear hb)))
    | (go_at_call 11; (first | (refine (HQ.out _ HB9.out).mono ?_; rintro e w10 ⟨rfl, hb⟩; have HB10 := Lib.hid (below_then HB9.out hb); have HS10 := Lib.hid (HSA.out _ HB10.out); clear hb) | (refine (HQ.out _ HB10.out).mono ?_; rintro e w11 ⟨rfl, hb⟩; have HB11 := Lib.hid (below_then HB10.out hb); have HS11 := Lib.hid (HSA.out _ HB11.out); clear hb) | (refine (HO.out _ HB11.out).mono ?_; rintro e w12 ⟨rfl, hb⟩; have HB12 := Lib.hid (below_then HB11.out hb); have HS12 := Lib.hid (HSA.out _ HB12.out); clear hb)))
    | (go_at_call 12; (first | (refine (HP.out _ HB9.out).mono ?_; rintro e w10 ⟨rfl, hb⟩; have HB10 := Lib.hid (below_then HB9.out hb); have HS10 := Lib.hid (HSA.out _ HB10.out); clear hb) | (refine (HP.out _ HB10.out).mono ?_; rintro e w11 ⟨rfl, hb⟩; have HB11 := Lib.hid (below_then HB10.out hb); have HS11 := Lib.hid (HSA.out _ HB11.out); clear hb)))
    | fail)
  all_goals
    go_wp2_with fail
    go_returns
    exact ⟨rfl, below_then HBz.out HB12.out⟩
end Go.Proofs.YtpdfjdomjklkbaaGreatDoor
