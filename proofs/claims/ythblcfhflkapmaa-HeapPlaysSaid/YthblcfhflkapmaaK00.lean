/-
  What two laws ask of the document's words: all, the same, an error's number.
  The document's heap in memory; what stands at a place, how much is used, whether words are fine.
  The document's heap: what is reached, and words as they point then.
  The document's heap: words as they point then.
  The document's heap is collected: what is to be told, and the text cut into pieces.
-/
import Derived.Test.YthblcfhflkapmaaHpAJ
import Derived.Test.YthblcfhflkapmaaCodes
namespace Go.Proofs.Ythblcfhflkapmaa
open Go Go.ChangeShapes Go.WideShapes Go.ChangeAt Go.RowKit Go.Sort
set_option linter.unusedVariables false
set_option linter.unusedSimpArgs false

theorem own_lit (w : World) {B size : Nat} (T : TypeId) (hB : B ≤ w.heap.size) : (w.alloc (.cells #[] T)).ownsRow B T size (.slice (some ⟨w.heap.size, 0, none⟩) 0 0) 0 [] :=
  ⟨by simp, .inr ⟨w.heap.size, 0, #[], rfl, hB, heap_new rfl, Nat.le_refl _, Nat.zero_le _, by simp, by simp⟩⟩
abbrev DTy : TypeId := 55
theorem elRef : ElemTy Try.prog 40 55 (.agg #[.bool false, .int .i64 0]) 2 16 :=
  ⟨Try.underlying40, by kernel_rfl, rfl, by decide, by decide⟩
theorem rd_oneR (w : World) (u : Wd) : Rd (w.alloc (.cells #[.bool u.ptr, .int .i64 u.v] DTy)) 2 (some ⟨w.heap.size, 0, none⟩) 1 (wcells [u]) :=
  Rd.lit w #[.bool u.ptr, .int .i64 u.v] DTy rfl
set_option maxRecDepth 100000 in
set_option maxHeartbeats 1000000 in
theorem all_any (w : World) (A : Option Addr) (l : List Wd) (c : Nat) (hr : Rd w 2 A l.length (wcells l)) (hm : l.length ≤ 1048576) :
    Calls Try.prog 11 #[.slice A l.length c] w fun e w' => ∃ v, e = .returned v ∧ w'.ownsRow w.heap.size DTy 2 v l.length (wcells l) ∧ Below w.heap.size w w' := by
  have HR := Lib.hid hr
  have HM := Lib.hid hm
  have hm' : (l.length : Int) ≤ 1048576 := by omega
  clear hr hm
  go_enter Try.func11, Try.ntmps11
  go_wp2_with fail
  go_loopw [3, 4] (fun v i wr => ∃ k : Nat, k ≤ l.length ∧ i = .int .i64 k ∧ wr.ownsRow w.heap.size DTy 2 v k (wcells (l.take k)) ∧ Below w.heap.size w wr) (fun _ i _ => l.length - (intOf i).toNat)
  case atStart => exact ⟨0, Nat.zero_le _, rfl, World.ownsRow_nil _ _ _ _, Below.refl _ _⟩
  case round =>
    obtain ⟨k, hk, rfl, hown, hb⟩ := hrel
    have HW := Lib.hid (And.intro hown hb)
    have k0 : (0 : Int) ≤ (k : Int) := by omega
    by_cases hlt : k < l.length
    · have k1 : (k : Int) < (l.length : Int) := by omega
      obtain ⟨u, hu⟩ : ∃ u, l[k]? = some u := ⟨_, List.getElem?_eq_getElem hlt⟩
      obtain ⟨b, o, hA, _, f0, f1⟩ := (HR.out.below hb).word hu
      subst hA
      have HE : Hid (l.take (k + 1) = l.take k ++ [u]) := by show l.take (k + 1) = l.take k ++ [u]; rw [List.take_add_one, hu]; rfl
      have HK := Lib.hid (And.intro hlt hk)
      clear hown hb hu hk
      go_wp2_with fail
      refine (as_any _ _ _).mono ?_
      rintro e w3 ⟨rfl, hb3⟩
      have HA3 := Lib.hid ((Below.refl w3.heap.size w3).alloc (Nat.le_refl _) (.cells #[.bool u.ptr, .int .i64 u.v] DTy))
      have HO4 := Lib.hid (own_below (own_below HW.out.1 hb3) HA3.out)
      have HL4 := Lib.hid (show w.heap.size ≤ (w3.alloc (.cells #[.bool u.ptr, .int .i64 u.v] DTy)).heap.size by rw [World.size_alloc]; have := HW.out.2.size; have := hb3.size; omega)
      have HE4 := Lib.hid (rd_oneR w3 u)
      have HB3 := Lib.hid (HW.out.2.trans (hb3.mono HW.out.2.size))
      have HLB := Lib.hid (show (k + 1) * 16 ≤ 140737488355328 by have := HM.out; omega)
      clear hb3
      go_wp2_with (at_builtin; refine wpList_app elRef _ rfl (.tmp 11) (.tmp 17) rfl _ _ k _ rfl HO4.out (some ⟨w3.heap.size, 0, none⟩) 1 1 _ rfl HE4.out (wcells_ones _) HLB.out HL4.out ?_; intro v6 w6 hown6 hb6 hg6 hat6; rw [← wcells_append, ← HE.out] at hown6; have H6 := Lib.hid (And.intro hown6 (HB3.out.trans ((HA3.out.mono HB3.out.size).trans hb6))); clear hown6 hb6 hg6 hat6)
      have hKK := HK.out
      exact ⟨⟨k + 1, by omega, by go_num, H6.out.1, H6.out.2⟩, by simp [intOf] <;> omega⟩
    · have hkk : k = l.length := by omega
      rw [hkk, List.take_length] at hown
      have HO := Lib.hid (And.intro hown hb)
      clear hown hb hk
      go_wp2_with fail
      go_returns
      exact ⟨_, rfl, by rw [hkk]; exact HO.out.1, HO.out.2⟩
set_option maxRecDepth 100000 in
set_option maxHeartbeats 1000000 in
/-- The same words. (The laws hold words against the document's only where they are the same.) -/
theorem same_any (w : World) (A B : Option Addr) (l : List Wd) (c d : Nat) (hu : Rd w 2 A l.length (wcells l)) (hv : Rd w 2 B l.length (wcells l)) (hm : l.length ≤ 1048576) :
    Calls Try.prog 13 #[.slice A l.length c, .slice B l.length d] w fun e w' => e = .returned (.bool true) ∧ Below w.heap.size w w' := by
  have HR := Lib.hid (And.intro hu hv)
  have hm' : (l.length : Int) ≤ 1048576 := by omega
  clear hu hv hm
  go_enter Try.func13, Try.ntmps13
  go_wp2_with fail
  go_loopw [5] (fun i wr => ∃ k : Nat, k ≤ l.length ∧ i = .int .i64 k ∧ Below w.heap.size w wr) (fun i _ => l.length - (intOf i).toNat)
  case atStart => exact ⟨0, Nat.zero_le _, rfl, Below.refl _ _⟩
  case round =>
    obtain ⟨k, hk, rfl, hb⟩ := hrel
    have HB := Lib.hid hb
    have k0 : (0 : Int) ≤ (k : Int) := by omega
    by_cases hlt : k < l.length
    · have k1 : (k : Int) < (l.length : Int) := by omega
      obtain ⟨u, hu⟩ : ∃ u, l[k]? = some u := ⟨_, List.getElem?_eq_getElem hlt⟩
      obtain ⟨b, o, hA, _, f0, f1⟩ := (HR.out.1.below hb).word hu
      obtain ⟨b', o', hB, _, g0, g1⟩ := (HR.out.2.below hb).word hu
      subst hA
      subst hB
      clear hu hb hk
      go_wp2_with fail
      go_quiet (fail)
      go_wp2_with fail
      exact ⟨⟨k + 1, by omega, by go_num, below_drewN HB.out _⟩, by simp [intOf] <;> omega⟩
    · clear hb
      go_wp2_with fail
      go_returns
      exact ⟨rfl, HB.out⟩
theorem code_nil (w : World) : Calls Try.prog 12 #[.nilIface] w fun e w' => e = .returned (.int .i64 0) ∧ w = w' := by
  go_enter Try.func12, Try.ntmps12
  go_wp2
  go_returns
  exact ⟨rfl, rfl⟩
theorem code_one (w : World) : Calls Try.prog 12 #[.iface 29 (.int .i64 1)] w fun e w' => e = .returned (.int .i64 1) ∧ w = w' := by
  go_enter Try.func12, Try.ntmps12
  go_wp2_with fail
  refine wp_loop_rounds 1 ?_
  rw [rounds_succ]
  go_wp2_with fail
  go_returns
  exact ⟨rfl, rfl⟩
theorem code_seven (w : World) : Calls Try.prog 12 #[.iface 29 (.int .i64 7)] w fun e w' => e = .returned (.int .i64 7) ∧ w = w' := by
  go_enter Try.func12, Try.ntmps12
  go_wp2_with fail
  go_loopw [3] (fun i wr => wr = w ∧ ∃ k : Nat, i = .int .i64 k ∧ 1 ≤ k ∧ k ≤ 7) (fun i _ => 8 - (intOf i).toNat)
  case atStart => exact ⟨by first | rfl | trivial, 1, rfl, by omega, by omega⟩
  case round =>
    obtain ⟨rfl, k, rfl, h1, h2⟩ := hrel
    have k1 : (k : Int) ≤ 11 := by omega
    have k0 : (1 : Int) ≤ (k : Int) := by omega
    by_cases h7 : k = 7
    · subst h7
      go_wp2_with fail
      go_returns
      exact ⟨rfl, rfl⟩
    · have hne : ((7 : Int) == (k : Int)) = false := by simp; omega
      go_wp2_with fail
      exact ⟨⟨by first | rfl | trivial, k + 1, by go_num, by omega, by omega⟩, by simp [intOf] <;> omega⟩
end Go.Proofs.Ythblcfhflkapmaa

namespace Go.Proofs.Ythblcfhflkapmaa
open Go Go.ChangeShapes Go.WideShapes Go.ChangeAt Go.RowKit Go.Sort
set_option linter.unusedVariables false
set_option linter.unusedSimpArgs false

abbrev RTyp : TypeId := 33
abbrev OTyp : TypeId := 42
/-- One of the document's objects, and where its words lie. -/
structure RO where
  place : Int
  o : Ob
  A : Option Addr
  c : Nat
def RO.cells (y : RO) : List Value := [.int .i64 y.place, .int .i64 y.o.1, .slice y.A y.o.2.length y.c]
theorem ro_at {xs : List RO} {k : Nat} {y : RO} (h : xs[k]? = some y) (j : Nat) (u : Value) (hj : j < 3) (hu : y.cells[j]? = some u) : (xs.flatMap RO.cells)[k * 3 + j]? = some u := by
  induction xs generalizing k with
  | nil => simp at h
  | cons x l ih =>
    rw [List.flatMap_cons]
    cases k with
    | zero =>
      simp only [List.getElem?_cons_zero, Option.some.injEq] at h
      subst h
      rw [Nat.zero_mul, Nat.zero_add, List.getElem?_append_left (by show j < 3; exact hj)]
      exact hu
    | succ k =>
      rw [List.getElem?_append_right (by show 3 ≤ _; omega), show (k + 1) * 3 + j - x.cells.length = k * 3 + j by show (k + 1) * 3 + j - 3 = _; omega]
      exact ih (by simpa using h)
theorem ros_len (xs : List RO) : (xs.flatMap RO.cells).length = xs.length * 3 := by
  induction xs with
  | nil => rfl
  | cons x l ih => rw [List.flatMap_cons, List.length_append, ih, List.length_cons]; show 3 + _ = _; omega
/-- None of the document's heap's blocks. -/
def Nr (mb : Nat) (x : Value) (xs : List RO) (b : Nat) : Prop := b ≠ mb ∧ x.ownBlock ≠ some b ∧ ∀ y ∈ xs, ∀ a, y.A = some a → a.block ≠ b
structure RH (w : World) (B mb : Nat) (half runs : Int) (L : List Ob) (x : Value) (xs : List RO) : Prop where
  hd : w.heap[mb]? = some (.cells #[.int .i64 half, x, .int .i64 runs] RTyp)
  row : w.ownsRow B OTyp 3 x xs.length (xs.flatMap RO.cells)
  ob : xs.map RO.o = L
  pl : ∀ (j : Nat) (y : RO), xs[j]? = some y → y.place = (place L j : Nat)
  ws : ∀ y ∈ xs, w.ownsRow B DTy 2 (.slice y.A y.o.2.length y.c) y.o.2.length (wcells y.o.2)
  nd : ∀ (i j : Nat) (y z : RO) (a b : Addr), xs[i]? = some y → xs[j]? = some z → i ≠ j → y.A = some a → z.A = some b → a.block ≠ b.block
  nx : ∀ y ∈ xs, ∀ a, y.A = some a → x.ownBlock ≠ some a.block ∧ a.block ≠ mb
  nm : x.ownBlock ≠ some mb
  ge : B ≤ mb
section
variable {w w' : World} {B mb : Nat} {half runs : Int} {L : List Ob} {x : Value} {xs : List RO}
theorem RH.keep (h : RH w B mb half runs L x xs) (hk : ∀ b, ¬ Nr mb x xs b → b < w.heap.size → w'.heap[b]? = w.heap[b]?) : RH w' B mb half runs L x xs := by
  refine ⟨(hk mb (fun q => q.1 rfl) (lt_of_heap h.hd)).trans h.hd, own_keep h.row (fun g hg hl => hk g (fun q => q.2.1 hg) hl), h.ob, h.pl, fun y hy => own_keep (h.ws y hy) (fun g hg hl => hk g (fun q => ?_) hl), h.nd, h.nx, h.nm, h.ge⟩
  cases ha : y.A with
  | none => rw [ha] at hg; cases hg
  | some a =>
    rw [ha] at hg
    simp only [Value.ownBlock, Option.some.injEq] at hg
    exact q.2.2 y hy a ha hg
theorem RH.below (h : RH w B mb half runs L x xs) (hb : Below w.heap.size w w') : RH w' B mb half runs L x xs := h.keep fun b _ hl => hb.block b hl
theorem RH.fresh (h : RH w B mb half runs L x xs) {b : Nat} (hb : w.heap.size ≤ b) : Nr mb x xs b := by
  refine ⟨fun e => by have := lt_of_heap h.hd; omega, fun e => by have := (h.row.lt b e).2; omega, fun y hy a ha e => ?_⟩
  have := ((h.ws y hy).lt a.block (by rw [ha]; rfl)).2
  omega
theorem RH.len (h : RH w B mb half runs L x xs) : xs.length = L.length := by rw [← h.ob, List.length_map]
theorem RH.get (h : RH w B mb half runs L x xs) {k : Nat} {y : RO} (hk : xs[k]? = some y) : L[k]? = some y.o := by rw [← h.ob, List.getElem?_map, hk]; rfl
theorem RH.at {A : Option Addr} {c n : Nat} (h : RH w B mb half runs L (.slice A n c) xs) (hn : n = xs.length) {k : Nat} {y : RO} (hk : xs[k]? = some y) : ∃ b o, A = some ⟨b, o, none⟩ ∧ w.cell? ⟨b, o + k * 3, none⟩ = some (.int .i64 y.place) ∧ w.cell? ⟨b, o + k * 3 + 1, none⟩ = some (.int .i64 y.o.1) ∧ w.cell? ⟨b, o + k * 3 + 2, none⟩ = some (.slice y.A y.o.2.length y.c) := by
  subst hn
  have hkl := (List.getElem?_eq_some_iff.1 hk).1
  obtain ⟨b, o, rfl, hb, hh⟩ := (Rd.of_own h.row).base (by rw [ros_len]; omega)
  exact ⟨b, o, rfl, by have := hh _ _ (ro_at hk 0 _ (by omega) rfl); simpa using this, by have := hh _ _ (ro_at hk 1 _ (by omega) rfl); rw [← Nat.add_assoc] at this; exact this, by have := hh _ _ (ro_at hk 2 _ (by omega) rfl); rw [← Nat.add_assoc] at this; exact this⟩
theorem cells3 {w : World} {g : Nat} {x0 x1 x2 : Value} {T : TypeId} {fr : Nat × Nat} (h : w.heap[g]? = some (.cells #[x0, x1, x2] T fr)) : w.cell? ⟨g, 0, none⟩ = some x0 ∧ w.cell? ⟨g, 1, none⟩ = some x1 ∧ w.cell? ⟨g, 2, none⟩ = some x2 := by
  refine ⟨?_, ?_, ?_⟩ <;> (rw [Lib.cell_of_heap h]; rfl)
/-- The number of the object at a place, as the document tells it. -/
def atI (L : List Ob) (p : Int) : Int := match at_ L p with
  | some j => (j : Nat)
  | none => -1
theorem atI_some {L : List Ob} {p : Int} {j : Nat} (h : at_ L p = some j) : atI L p = (j : Nat) := by unfold atI; rw [h]
theorem atI_none {L : List Ob} {p : Int} (h : at_ L p = none) : atI L p = -1 := by unfold atI; rw [h]
set_option maxRecDepth 100000 in
set_option maxHeartbeats 1000000 in
theorem At_any (h : RH w B mb half runs L x xs) (hm : L.length ≤ 4000000) (p : Int) :
    Calls Try.prog 16 #[.pointer (some ⟨mb, 0, none⟩), .int .i64 p] w fun e w' => e = .returned (.int .i64 (atI L p)) ∧ w = w' := by
  obtain ⟨c0, c1, c2⟩ := cells3 h.hd
  have hl := h.len
  obtain ⟨A, c, rfl, _⟩ := own_cap h.row
  have H := Lib.hid h
  have HL := Lib.hid hl
  obtain ⟨n, hn⟩ : ∃ n, xs.length = n := ⟨_, rfl⟩
  have HN := Lib.hid hn
  rw [hn] at c1
  have hm' : (n : Int) ≤ 4000000 := by omega
  clear h hm hl hn
  go_enter Try.func16, Try.ntmps16
  go_wp2_with fail
  go_loopw [5] (fun i wr => wr = w ∧ ∃ k : Nat, i = .int .i64 k ∧ k ≤ n ∧ ∀ j, j < k → (place L j : Int) ≠ p) (fun i _ => n - (intOf i).toNat)
  case atStart => exact ⟨by first | rfl | trivial, 0, rfl, Nat.zero_le _, fun j hj => absurd hj (Nat.not_lt_zero j)⟩
  case round =>
    obtain ⟨rfl, k, rfl, hk, hno⟩ := hrel
    have HNO := Lib.hid hno
    have k0 : (0 : Int) ≤ (k : Int) := by omega
    clear hno
    by_cases hlt : k < n
    · have k1 : (k : Int) < (n : Int) := by omega
      obtain ⟨y, hy⟩ : ∃ y, xs[k]? = some y := ⟨_, List.getElem?_eq_getElem (by rw [HN.out]; exact hlt)⟩
      obtain ⟨b, o, hA, f0, _, _⟩ := H.out.at rfl hy
      have hpl := H.out.pl k y hy
      subst hA
      by_cases hp : (place L k : Int) = p
      · have hr : atI L p = (k : Nat) := atI_some (at_some.2 ⟨by rw [← HL.out, HN.out]; exact hlt, hp⟩)
        have HR := Lib.hid hr
        rw [hpl, hp] at f0
        clear hk hy hpl hp hr
        go_wp2_with fail
        go_returns
        exact ⟨by rw [HR.out]; rfl, rfl⟩
      · have HP := Lib.hid hp
        have q1 : ((place L k : Int) == p) = false := by simpa using hp
        rw [hpl] at f0
        clear hk hy hpl hp
        go_wp2_with fail
        exact ⟨⟨by first | rfl | trivial, k + 1, by go_num, by omega, fun j hj => by
          rcases Nat.lt_or_ge j k with q | q
          · exact HNO.out j q
          · rw [show j = k by omega]; exact HP.out⟩, by simp [intOf] <;> omega⟩
    · have hr : atI L p = -1 := by
        refine atI_none ?_
        cases ha : at_ L p with
        | none => rfl
        | some j =>
          obtain ⟨h1, h2⟩ := at_some.1 ha
          exact absurd h2 (HNO.out j (by rw [← HL.out, HN.out] at h1; omega))
      have HR := Lib.hid hr
      clear hk hr
      go_wp2_with fail
      go_returns
      exact ⟨by rw [HR.out]; rfl, rfl⟩
set_option maxRecDepth 100000 in
set_option maxHeartbeats 1000000 in
theorem RUsed_any (h : RH w B mb half runs L x xs) (hs : sizes L ≤ 4000000) (hm : L.length ≤ 4000000) :
    Calls Try.prog 36 #[.pointer (some ⟨mb, 0, none⟩)] w fun e w' => e = .returned (.int .i64 (sizes L : Nat)) ∧ w = w' := by
  obtain ⟨c0, c1, c2⟩ := cells3 h.hd
  have hl := h.len
  obtain ⟨A, c, rfl, _⟩ := own_cap h.row
  have H := Lib.hid h
  have HL := Lib.hid hl
  have HS := Lib.hid hs
  obtain ⟨n, hn⟩ : ∃ n, xs.length = n := ⟨_, rfl⟩
  have HN := Lib.hid hn
  rw [hn] at c1
  have hm' : (n : Int) ≤ 4000000 := by omega
  clear h hm hl hn hs
  go_enter Try.func36, Try.ntmps36
  go_wp2_with fail
  go_loopw [3, 4] (fun v i wr => wr = w ∧ ∃ k : Nat, i = .int .i64 k ∧ k ≤ n ∧ v = .int .i64 (place L k : Nat)) (fun _ i _ => n - (intOf i).toNat)
  case atStart => exact ⟨by first | rfl | trivial, 0, rfl, Nat.zero_le _, rfl⟩
  case round =>
    obtain ⟨rfl, k, rfl, hk, rfl⟩ := hrel
    have k0 : (0 : Int) ≤ (k : Int) := by omega
    by_cases hlt : k < n
    · have k1 : (k : Int) < (n : Int) := by omega
      obtain ⟨y, hy⟩ : ∃ y, xs[k]? = some y := ⟨_, List.getElem?_eq_getElem (by rw [HN.out]; exact hlt)⟩
      obtain ⟨b, o, hA, _, _, f2⟩ := H.out.at rfl hy
      have hps := place_succ (H.out.get hy)
      unfold osz at hps
      obtain ⟨P, hP⟩ : ∃ P, place L k = P := ⟨_, rfl⟩
      have hPs := place_le (L := L) (k + 1)
      rw [hP] at hps ⊢
      have HPS := Lib.hid hps
      have p1 : (P : Int) ≤ 4000000 := by have := HS.out; omega
      have p2 : (P : Int) + 1 + (y.o.2.length : Int) ≤ 4000000 := by have := HS.out; omega
      have p0 : (0 : Int) ≤ (P : Int) := by omega
      subst hA
      clear hk hy hps hPs
      go_wp2_with fail
      exact ⟨⟨by first | rfl | trivial, k + 1, by go_num, by omega, by rw [HPS.out]; go_num⟩, by simp [intOf] <;> omega⟩
    · have hkn : k = L.length := by rw [← HL.out, HN.out]; omega
      have HP : Hid (place L k = sizes L) := by show place L k = sizes L; rw [hkn]; exact place_end L
      clear hk hkn
      go_wp2_with fail
      go_returns
      exact ⟨by rw [← HP.out]; rfl, rfl⟩
set_option maxRecDepth 100000 in
set_option maxHeartbeats 1000000 in
theorem RFine_any (h : RH w B mb half runs L x xs) (hm : L.length ≤ 4000000) (A : Option Addr) (c : Nat) (l : List Wd) (hr : Rd w 2 A l.length (wcells l)) (hlm : l.length ≤ 4000000) :
    Calls Try.prog 17 #[.pointer (some ⟨mb, 0, none⟩), .slice A l.length c] w fun e w' => e = .returned (.bool (l.all (fineB L))) ∧ w = w' := by
  have H := Lib.hid (And.intro h (And.intro hm hr))
  have hl' : (l.length : Int) ≤ 4000000 := by omega
  clear h hm hr hlm
  go_enter Try.func17, Try.ntmps17
  go_wp2_with fail
  go_loopw [5] (fun i wr => wr = w ∧ ∃ k : Nat, i = .int .i64 k ∧ k ≤ l.length ∧ (l.take k).all (fineB L) = true) (fun i _ => l.length - (intOf i).toNat)
  case atStart => exact ⟨by first | rfl | trivial, 0, rfl, Nat.zero_le _, rfl⟩
  case round =>
    obtain ⟨rfl, k, rfl, hk, hall⟩ := hrel
    have HALL := Lib.hid hall
    have k0 : (0 : Int) ≤ (k : Int) := by omega
    clear hall
    by_cases hlt : k < l.length
    · have k1 : (k : Int) < (l.length : Int) := by omega
      obtain ⟨u, hu⟩ : ∃ u, l[k]? = some u := ⟨_, List.getElem?_eq_getElem hlt⟩
      obtain ⟨b, o, hA, _, f0, f1⟩ := H.out.2.2.word hu
      subst hA
      have HT : Hid ((l.take (k + 1)).all (fineB L) = fineB L u) := by
        show (l.take (k + 1)).all (fineB L) = fineB L u
        rw [List.take_add_one, hu, List.all_append, HALL.out]
        simp
      have HU := Lib.hid (List.mem_of_getElem? hu)
      rcases Bool.eq_false_or_eq_true u.ptr with hp | hp
      · rw [hp] at f0
        have HA := Lib.hid (At_any H.out.1 H.out.2.1 u.v)
        cases ha : at_ L u.v with
        | some j =>
          have hj : atI L u.v = (j : Nat) := atI_some ha
          rw [hj] at HA
          have HF : Hid (fineB L u = true) := by show fineB L u = true; unfold fineB; rw [ha]; simp
          have j0 : ¬ (j : Int) < 0 := by omega
          have j1 : decide ((j : Int) < 0) = false := decide_eq_false j0
          clear hu hk hp ha hj
          go_wp2_with (go_at_call 16; (with_reducible refine HA.out.mono ?_); rintro e w2 ⟨rfl, rfl⟩)
          exact ⟨⟨by first | rfl | trivial, k + 1, by go_num, by omega, by rw [HT.out]; exact HF.out⟩, by simp [intOf] <;> omega⟩
        | none =>
          have hj : atI L u.v = -1 := atI_none ha
          rw [hj] at HA
          have HF : Hid (l.all (fineB L) = false) := by
            show l.all (fineB L) = false
            rw [List.all_eq_false]
            exact ⟨u, HU.out, by unfold fineB; rw [ha, hp]; simp⟩
          clear hu hk hp ha hj
          go_wp2_with (go_at_call 16; (with_reducible refine HA.out.mono ?_); rintro e w2 ⟨rfl, rfl⟩)
          go_returns
          exact ⟨by rw [HF.out]; rfl, rfl⟩
      · rw [hp] at f0
        have HF : Hid (fineB L u = true) := by show fineB L u = true; unfold fineB; rw [hp]; simp
        clear hu hk hp
        go_wp2_with fail
        exact ⟨⟨by first | rfl | trivial, k + 1, by go_num, by omega, by rw [HT.out]; exact HF.out⟩, by simp [intOf] <;> omega⟩
    · have hkk : k = l.length := by omega
      have HF : Hid (l.all (fineB L) = true) := by have := HALL.out; rw [hkk, List.take_length] at this; exact this
      clear hk hkk
      go_wp2_with fail
      go_returns
      exact ⟨by rw [HF.out]; rfl, rfl⟩
end
end Go.Proofs.Ythblcfhflkapmaa

namespace Go.Proofs.Ythblcfhflkapmaa
open Go Go.ChangeShapes Go.WideShapes Go.ChangeAt Go.RowKit Go.Sort
set_option linter.unusedVariables false
set_option linter.unusedSimpArgs false

/-- Numbers of objects, as they lie in memory. -/
def ncells (l : List Nat) : List Value := l.map fun n => .int .i64 (n : Nat)
theorem ncells_len (l : List Nat) : (ncells l).length = l.length := by simp [ncells]
theorem ncells_append (a b : List Nat) : ncells (a ++ b) = ncells a ++ ncells b := by simp [ncells]
theorem ncells_ones (l : List Nat) : ∀ u ∈ ncells l, u.oneCell' = true := by
  intro u hu
  obtain ⟨n, _, rfl⟩ := List.mem_map.1 hu
  rfl
theorem Rd.nat {w : World} {A : Option Addr} {l : List Nat} {n : Nat} (h : Rd w 1 A n (ncells l)) {k x : Nat} (hk : l[k]? = some x) : ∃ b o, A = some ⟨b, o, none⟩ ∧ b < w.heap.size ∧ w.cell? ⟨b, o + k, none⟩ = some (.int .i64 (x : Nat)) := by
  have hkl := (List.getElem?_eq_some_iff.1 hk).1
  obtain ⟨b, o, rfl, hb, hh⟩ := h.base (by rw [ncells_len]; omega)
  exact ⟨b, o, rfl, hb, hh _ _ (by simp [ncells, hk])⟩
theorem elInt : ElemTy Try.prog 66 3 (.int .i64 0) 1 8 :=
  ⟨Try.underlying66, by kernel_rfl, rfl, by decide, by decide⟩
abbrev NTy : TypeId := 3
set_option maxRecDepth 100000 in
set_option maxHeartbeats 1000000 in
theorem met_any (w : World) (A : Option Addr) (c : Nat) (l : List Nat) (n : Nat) (hr : Rd w 1 A l.length (ncells l)) (hm : l.length ≤ 4000000) :
    Calls Try.prog 46 #[.slice A l.length c, .int .i64 (n : Nat)] w fun e w' => e = .returned (.bool (decide (n ∈ l))) ∧ w = w' := by
  have HR := Lib.hid hr
  have hm' : (l.length : Int) ≤ 4000000 := by omega
  clear hr hm
  go_enter Try.func46, Try.ntmps46
  go_wp2_with fail
  go_loopw [5] (fun i wr => wr = w ∧ ∃ k : Nat, i = .int .i64 k ∧ k ≤ l.length ∧ n ∉ l.take k) (fun i _ => l.length - (intOf i).toNat)
  case atStart => exact ⟨by first | rfl | trivial, 0, rfl, Nat.zero_le _, by simp⟩
  case round =>
    obtain ⟨rfl, k, rfl, hk, hno⟩ := hrel
    have HNO := Lib.hid hno
    have k0 : (0 : Int) ≤ (k : Int) := by omega
    clear hno
    by_cases hlt : k < l.length
    · have k1 : (k : Int) < (l.length : Int) := by omega
      obtain ⟨y, hy⟩ : ∃ y, l[k]? = some y := ⟨_, List.getElem?_eq_getElem hlt⟩
      obtain ⟨b, o, hA, _, f0⟩ := HR.out.nat hy
      subst hA
      by_cases hp : y = n
      · subst hp
        have HF : Hid (decide (y ∈ l) = true) := decide_eq_true (List.mem_of_getElem? hy)
        clear hk hy
        go_wp2_with fail
        go_returns
        exact ⟨by rw [HF.out]; rfl, rfl⟩
      · have HP : Hid (n ∉ l.take (k + 1)) := by
          show n ∉ l.take (k + 1)
          rw [List.take_add_one, hy, List.mem_append]
          rintro (q | q)
          · exact HNO.out q
          · simp at q; exact hp q.symm
        have q1 : ((y : Int) == (n : Int)) = false := by simp; omega
        clear hk hy hp
        go_wp2_with fail
        exact ⟨⟨by first | rfl | trivial, k + 1, by go_num, by omega, HP.out⟩, by simp [intOf] <;> omega⟩
    · have HF : Hid (decide (n ∈ l) = false) := decide_eq_false (by have := HNO.out; rwa [show k = l.length by omega, List.take_length] at this)
      clear hk
      go_wp2_with fail
      go_returns
      exact ⟨by rw [HF.out]; rfl, rfl⟩
section
variable {w w' : World} {B mb : Nat} {half runs : Int} {L : List Ob} {x : Value} {xs : List RO}
theorem reach_step (L : List Ob) (order : List Nat) (ws : List Wd) (k : Nat) (u : Wd) (hu : ws[k]? = some u) : reachP L order (ws.take (k + 1)) = rstep L (reachP L order (ws.take k)) u := by
  unfold reachP
  rw [List.take_add_one, hu, List.foldl_append]
  rfl
set_option maxRecDepth 100000 in
set_option maxHeartbeats 2000000 in
theorem reach_any (h : RH w B mb half runs L x xs) (hm : L.length ≤ 4000000) (A1 A2 : Option Addr) (c1 c2 : Nat) (order : List Nat) (ws : List Wd) (ho : Rd w 1 A1 order.length (ncells order)) (hg : Og L order) (hw : Rd w 2 A2 ws.length (wcells ws)) (hwm : ws.length ≤ 4000000) (hf : ∀ u ∈ ws, Fine L u) :
    Calls Try.prog 41 #[.pointer (some ⟨mb, 0, none⟩), .slice A1 order.length c1, .slice A2 ws.length c2] w fun e w' => ∃ A c, e = .returned (.slice A (reachP L order ws).length c) ∧ Rd w' 1 A (reachP L order ws).length (ncells (reachP L order ws)) ∧ Below w.heap.size w w' := by
  have H := Lib.hid (And.intro h (And.intro hm (And.intro hw (And.intro hf hg))))
  have HO := Lib.hid ho
  have hm' : (ws.length : Int) ≤ 4000000 := by omega
  clear h hm ho hg hw hwm hf
  go_enter Try.func41, Try.ntmps41
  go_wp2_with fail
  go_loopw [1, 7] (fun y i wr => ∃ (k : Nat) (A : Option Addr) (c : Nat), i = .int .i64 k ∧ k ≤ ws.length ∧ y = .slice A (reachP L order (ws.take k)).length c ∧ Rd wr 1 A (reachP L order (ws.take k)).length (ncells (reachP L order (ws.take k))) ∧ Below w.heap.size w wr) (fun _ i _ => ws.length - (intOf i).toNat)
  case atStart => exact ⟨0, A1, c1, rfl, Nat.zero_le _, rfl, HO.out, Below.refl _ _⟩
  case round =>
    obtain ⟨k, A, c, rfl, hk, rfl, hrd, hb⟩ := hrel
    have k0 : (0 : Int) ≤ (k : Int) := by omega
    by_cases hlt : k < ws.length
    · have k1 : (k : Int) < (ws.length : Int) := by omega
      obtain ⟨u, hu⟩ : ∃ u, ws[k]? = some u := ⟨_, List.getElem?_eq_getElem hlt⟩
      obtain ⟨b, o, hA, _, f0, f1⟩ := (H.out.2.2.1.below hb).word hu
      subst hA
      have hst := reach_step L order ws k u hu
      have hog := H.out.2.2.2.2.rp (ws.take k)
      obtain ⟨q, hq⟩ : ∃ q, reachP L order (ws.take k) = q := ⟨_, rfl⟩
      rw [hq] at hst hrd hog ⊢
      have HQ := Lib.hid (And.intro hst (And.intro hrd (And.intro hb hog)))
      rcases Bool.eq_false_or_eq_true u.ptr with hp | hp
      · obtain ⟨j, hj⟩ := H.out.2.2.2.1 u (List.mem_of_getElem? hu) hp
        rw [hp] at f0
        have HAT := Lib.hid (At_any (H.out.1.below hb) H.out.2.1 u.v)
        rw [atI_some hj] at HAT
        have HME := Lib.hid (met_any wr A c q j hrd (by have := hog.len; have := H.out.2.1; omega))
        by_cases hmem : j ∈ q
        · have he : rstep L q u = q := by unfold rstep; rw [if_pos hp, hj]; simp [hmem]
          rw [decide_eq_true hmem] at HME
          have HE := Lib.hid (hst.trans he)
          clear hst hrd hb hog hu hp hj hk hmem he hq
          go_wp2_with (first
            | (go_at_call 16; (with_reducible refine HAT.out.mono ?_); rintro e w2 ⟨rfl, rfl⟩)
            | (go_at_call 46; (with_reducible refine HME.out.mono ?_); rintro e w2 ⟨rfl, rfl⟩))
          exact ⟨⟨k + 1, A, c, by go_num, by omega, by rw [HE.out], by rw [HE.out]; exact HQ.out.2.1, HQ.out.2.2.1⟩, by simp [intOf] <;> omega⟩
        · have he : rstep L q u = q ++ [j] := by unfold rstep; rw [if_pos hp, hj]; simp [hmem]
          rw [decide_eq_false hmem] at HME
          have HE := Lib.hid (hst.trans he)
          have HL := Lib.hid (show q.length ≤ 4000000 by have := hog.len; have := H.out.2.1; omega)
          clear hst hrd hb hog hu hp hj hk hmem he hq
          have HO0 := Lib.hid (own_lit wr (size := 1) NTy (Nat.le_refl wr.heap.size))
          have HR3 := Lib.hid (HQ.out.2.1.alloc (.cells #[] NTy))
          have HA3 := Lib.hid ((Below.refl wr.heap.size wr).alloc (Nat.le_refl _) (.cells #[] NTy))
          have HLB := Lib.hid (show (0 + q.length) * 8 ≤ 140737488355328 by have := HL.out; omega)
          have HLC := Lib.hid (show (q.length + 1) * 8 ≤ 140737488355328 by have := HL.out; omega)
          go_upto_region 8 with (first
            | (go_at_call 16; (with_reducible refine HAT.out.mono ?_); rintro e w2 ⟨rfl, rfl⟩)
            | (go_at_call 46; (with_reducible refine HME.out.mono ?_); rintro e w2 ⟨rfl, rfl⟩))
          go_wp2_with (first
            | (at_builtin; refine wpList_app elInt _ rfl (.tmp 34) (.tmp 35) rfl _ _ 0 [] rfl HO0.out A q.length c (ncells q) rfl HR3.out (ncells_ones _) HLB.out HA3.out.size ?_; intro v4 w4 hown4 hb4 hg4 hat4; rw [Nat.zero_add, List.nil_append] at hown4; have H4 := Lib.hid (And.intro hown4 (HA3.out.trans hb4)); have HA4 := Lib.hid ((Below.refl w4.heap.size w4).alloc (Nat.le_refl _) (.cells #[.int .i64 (j : Nat)] NTy)); have HO4 := Lib.hid (own_below hown4 HA4.out); have HL4 := Lib.hid (show wr.heap.size ≤ (w4.alloc (.cells #[.int .i64 (j : Nat)] NTy)).heap.size from Nat.le_trans H4.out.2.size HA4.out.size); have HE4 := Lib.hid (show Rd (w4.alloc (.cells #[.int .i64 (j : Nat)] NTy)) 1 (some ⟨w4.heap.size, 0, none⟩) 1 (ncells [j]) from Rd.lit w4 #[.int .i64 (j : Nat)] NTy rfl); clear hown4 hb4 hg4 hat4)
            | (at_builtin; refine wpList_app elInt _ rfl (.tmp 36) (.tmp 38) rfl _ _ q.length (ncells q) rfl HO4.out (some ⟨w4.heap.size, 0, none⟩) 1 1 _ rfl HE4.out (ncells_ones _) HLC.out HL4.out ?_; intro v6 w6 hown6 hb6 hg6 hat6; rw [← ncells_append, ← HE.out] at hown6; have H6 := Lib.hid (And.intro hown6 (HQ.out.2.2.1.trans ((H4.out.2.trans ((HA4.out.mono H4.out.2.size).trans hb6)).mono HQ.out.2.2.1.size))); clear hown6 hb6 hg6 hat6))
          obtain ⟨A6, c6, hv6, _⟩ := own_cap H6.out.1
          have hl6 : q.length + 1 = (reachP L order (ws.take (k + 1))).length := by rw [HE.out]; simp
          have H66 := H6.out
          rw [hv6, hl6] at H66
          refine ⟨⟨k + 1, A6, c6, by go_num, by omega, by rw [hv6, hl6], Rd.of_own H66.1, H66.2⟩, by simp [intOf] <;> omega⟩
      · have he : rstep L q u = q := by unfold rstep; rw [if_neg (by simp [hp])]
        rw [hp] at f0
        have HE := Lib.hid (hst.trans he)
        clear hst hrd hb hog hu hp hk he hq
        go_wp2_with fail
        exact ⟨⟨k + 1, A, c, by go_num, by omega, by rw [HE.out], by rw [HE.out]; exact HQ.out.2.1, HQ.out.2.2.1⟩, by simp [intOf] <;> omega⟩
    · have HE : Hid (reachP L order (ws.take k) = reachP L order ws) := by show reachP L order (ws.take k) = _; rw [show k = ws.length by omega, List.take_length]
      rw [HE.out] at hrd ⊢
      have HB := Lib.hid (And.intro hrd hb)
      clear hrd hb hk
      go_wp2_with fail
      go_returns
      exact ⟨A, c, rfl, HB.out.1, HB.out.2⟩
end
end Go.Proofs.Ythblcfhflkapmaa

namespace Go.Proofs.Ythblcfhflkapmaa
open Go Go.ChangeShapes Go.WideShapes Go.ChangeAt Go.RowKit Go.Sort
set_option linter.unusedVariables false
set_option linter.unusedSimpArgs false

section
variable {w w' : World} {B mb : Nat} {half runs : Int} {L : List Ob} {x : Value} {xs : List RO}
/-- A row of places: of each object that is reached, where it goes. -/
structure PlR (L : List Ob) (order : List Nat) (P : List Nat) : Prop where
  ln : P.length = L.length
  at_ : ∀ j ∈ order, P[j]? = some (tpl L order j)
set_option maxRecDepth 100000 in
set_option maxHeartbeats 2000000 in
theorem turned_any (h : RH w B mb half runs L x xs) (hm : L.length ≤ 4000000) (A1 A2 : Option Addr) (c1 c2 : Nat) (order P : List Nat) (ws : List Wd) (hP : PlR L order P) (hp : Rd w 1 A2 P.length (ncells P)) (hw : Rd w 2 A1 ws.length (wcells ws)) (hwm : ws.length ≤ 4000000) (hf : ∀ u ∈ ws, In L order u) :
    Calls Try.prog 42 #[.pointer (some ⟨mb, 0, none⟩), .slice A1 ws.length c1, .slice A2 P.length c2] w fun e w' => ∃ v, e = .returned v ∧ w'.ownsRow w.heap.size DTy 2 v ws.length (wcells (ws.map (turn L order))) ∧ Below w.heap.size w w' := by
  have H := Lib.hid (And.intro h (And.intro hm (And.intro hw (And.intro hf (And.intro hP hp)))))
  have hm' : (ws.length : Int) ≤ 4000000 := by omega
  clear h hm hw hwm hf hP hp
  go_enter Try.func42, Try.ntmps42
  go_wp2_with fail
  go_loopw [7, 8] (fun y i wr => ∃ (k : Nat), i = .int .i64 k ∧ k ≤ ws.length ∧ wr.ownsRow w.heap.size DTy 2 y k (wcells ((ws.take k).map (turn L order))) ∧ Below w.heap.size w wr) (fun _ i _ => ws.length - (intOf i).toNat)
  case atStart => exact ⟨0, rfl, Nat.zero_le _, World.ownsRow_nil _ _ _ _, Below.refl _ _⟩
  case round =>
    obtain ⟨k, rfl, hk, hown, hb⟩ := hrel
    have k0 : (0 : Int) ≤ (k : Int) := by omega
    by_cases hlt : k < ws.length
    · have k1 : (k : Int) < (ws.length : Int) := by omega
      obtain ⟨u, hu⟩ : ∃ u, ws[k]? = some u := ⟨_, List.getElem?_eq_getElem hlt⟩
      obtain ⟨b, o, hA, _, f0, f1⟩ := (H.out.2.2.1.below hb).word hu
      subst hA
      have HW := Lib.hid (And.intro hown (And.intro hb (And.intro hu hlt)))
      have HLB := Lib.hid (show (k + 1) * 16 ≤ 140737488355328 by omega)
      have HT : Hid ((ws.take (k + 1)).map (turn L order) = (ws.take k).map (turn L order) ++ [turn L order u]) := by
        show (ws.take (k + 1)).map (turn L order) = _
        rw [List.take_add_one, hu, List.map_append]; rfl
      clear hown hb hu hk
      go_upto_region 6 with fail
      have hx3 := heap_new (w := wr) (o := .cells #[.bool u.ptr, .int .i64 u.v] DTy) rfl
      have hb3 : Below wr.heap.size wr (wr.alloc (.cells #[.bool u.ptr, .int .i64 u.v] DTy)) := (Below.refl _ _).alloc (Nat.le_refl _) _
      generalize wr.alloc (.cells #[.bool u.ptr, .int .i64 u.v] DTy) = w3 at *
      obtain ⟨d0, d1⟩ := cells2 hx3
      have z0 := frozenN hx3 0
      have z1 := frozenN hx3 1
      have H3 := Lib.hid (And.intro hx3 hb3)
      have HB3 := Lib.hid (HW.out.2.1.trans (hb3.mono HW.out.2.1.size))
      clear hx3 hb3 f0 f1
      rcases Bool.eq_false_or_eq_true u.ptr with hp | hp
      · obtain ⟨j, hj, hjo⟩ := H.out.2.2.2.1 u (List.mem_of_getElem? HW.out.2.2.1) hp
        rw [hp] at d0
        have HAT := Lib.hid (At_any (H.out.1.below HB3.out) H.out.2.1 u.v)
        rw [atI_some hj] at HAT
        have hPj := H.out.2.2.2.2.1.at_ j hjo
        have hjl : (j : Int) < (P.length : Int) := by have := (List.getElem?_eq_some_iff.1 hPj).1; omega
        have j0 : (0 : Int) ≤ (j : Int) := by omega
        obtain ⟨b2, o2, hA2, _, g0⟩ := (H.out.2.2.2.2.2.below HB3.out).nat hPj
        subst hA2
        have HE : Hid (turn L order u = ⟨true, tpl L order j⟩) := by show turn L order u = _; unfold turn; rw [if_pos hp, hj]; rfl
        have HPT := Lib.hid hp
        clear hp hj hjo hPj
        go_upto_region 8 with (go_at_call 16; (with_reducible refine HAT.out.mono ?_); rintro e w4 ⟨rfl, rfl⟩)
        have hx5 := set_cells H3.out.1 1 (.int .i64 (tpl L order j : Nat))
        have hb5 : Below wr.heap.size w3 (w3.setCell ⟨wr.heap.size, 1, none⟩ (.int .i64 (tpl L order j : Nat))) := (Below.refl _ _).setCell (p := ⟨wr.heap.size, 1, none⟩) (Nat.le_refl _) _
        have H5 := Lib.hid (And.intro hx5 (H3.out.2.trans hb5))
        clear d0 d1 z0 z1 g0 hx5 hb5
        generalize w3.setCell ⟨wr.heap.size, 1, none⟩ (.int .i64 (tpl L order j : Nat)) = w5 at *
        obtain ⟨d0, d1⟩ := cells2 (x0 := .bool u.ptr) (x1 := .int .i64 (tpl L order j : Nat)) H5.out.1
        rw [HPT.out] at d0
        have HB5 := Lib.hid (HW.out.2.1.trans (H5.out.2.mono HW.out.2.1.size))
        have HE4 := Lib.hid (rd_oneR w5 ⟨true, (tpl L order j : Nat)⟩)
        have HA4 := Lib.hid ((Below.refl w5.heap.size w5).alloc (Nat.le_refl _) (.cells #[.bool true, .int .i64 (tpl L order j : Nat)] DTy))
        have HO4 := Lib.hid (own_below (own_below HW.out.1 H5.out.2) HA4.out)
        have HL4 := Lib.hid (Nat.le_trans HB5.out.size HA4.out.size)
        go_wp2_with (at_builtin; refine wpList_app elRef _ rfl (.tmp 30) (.tmp 32) rfl _ _ k _ rfl HO4.out (some ⟨w5.heap.size, 0, none⟩) 1 1 _ rfl HE4.out (wcells_ones _) HLB.out HL4.out ?_; intro v6 w6 hown6 hb6 hg6 hat6; rw [← wcells_append] at hown6; have H6 := Lib.hid (And.intro hown6 (HB5.out.trans ((HA4.out.mono HB5.out.size).trans hb6))); clear hown6 hb6 hg6 hat6)
        exact ⟨⟨k + 1, by go_num, by omega, by rw [HT.out, HE.out]; exact H6.out.1, H6.out.2⟩, by simp [intOf] <;> omega⟩
      · rw [hp] at d0
        have HE : Hid (turn L order u = ⟨false, u.v⟩) := by show turn L order u = _; unfold turn; rw [if_neg (by simp [hp])]; obtain ⟨a, b⟩ := u; simp at hp; rw [hp]
        clear hp
        have HE4 := Lib.hid (rd_oneR w3 ⟨false, u.v⟩)
        have HA4 := Lib.hid ((Below.refl w3.heap.size w3).alloc (Nat.le_refl _) (.cells #[.bool false, .int .i64 u.v] DTy))
        have HO4 := Lib.hid (own_below (own_below HW.out.1 H3.out.2) HA4.out)
        have HL4 := Lib.hid (Nat.le_trans HB3.out.size HA4.out.size)
        go_wp2_with (at_builtin; refine wpList_app elRef _ rfl (.tmp 30) (.tmp 32) rfl _ _ k _ rfl HO4.out (some ⟨w3.heap.size, 0, none⟩) 1 1 _ rfl HE4.out (wcells_ones _) HLB.out HL4.out ?_; intro v6 w6 hown6 hb6 hg6 hat6; rw [← wcells_append] at hown6; have H6 := Lib.hid (And.intro hown6 (HB3.out.trans ((HA4.out.mono HB3.out.size).trans hb6))); clear hown6 hb6 hg6 hat6)
        exact ⟨⟨k + 1, by go_num, by omega, by rw [HT.out, HE.out]; exact H6.out.1, H6.out.2⟩, by simp [intOf] <;> omega⟩
    · have HB := Lib.hid (And.intro hown hb)
      have hkk : k = ws.length := by omega
      clear hown hb hk
      go_wp2_with fail
      go_returns
      exact ⟨_, rfl, by have := HB.out.1; rw [hkk, List.take_length] at this; exact this, HB.out.2⟩
end
end Go.Proofs.Ythblcfhflkapmaa

namespace Go.Proofs.Ythblcfhflkapmaa
open Go Go.ChangeShapes Go.WideShapes Go.ChangeAt Go.RowKit Go.Sort
set_option linter.unusedVariables false
set_option linter.unusedSimpArgs false

def dropSeqR : Nat → Code → Code
  | 0, c => c
  | n + 1, .seq _ b => dropSeqR n b
  | _ + 1, c => c
/-- The text of Collect from its n-th statement on. -/
noncomputable def tlR (n : Nat) : Code := dropSeqR n (Try.f22.body.getD .skip)
/-- What a collection of the document's heap comes to. -/
def RCR (w0 : World) (B mb : Nat) (half runs : Int) (L : List Ob) (roots : List Wd) (x : Value) (xs : List RO) : Ending → World → Prop := fun e w' => ∃ v x' xs', e = .returned v ∧ w'.ownsRow w0.heap.size DTy 2 v roots.length (wcells (collR L roots)) ∧ RH w' B mb half (runs + 1) (collO L roots) x' xs' ∧ (∀ g, v.ownBlock = some g → Nr mb x' xs' g) ∧ Tr w0 (Nr mb x xs) w' (Nr mb x' xs') ∧ Below B w0 w'
end Go.Proofs.Ythblcfhflkapmaa
