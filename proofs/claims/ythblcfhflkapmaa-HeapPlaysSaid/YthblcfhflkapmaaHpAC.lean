/-
  Rows of words, one behind the other, in new memory.
-/
import Derived.Test.YthblcfhflkapmaaHpAB
import Derived.Shelf.Spec.SlicesGrow
namespace Go.Proofs.Ythblcfhflkapmaa
open Go Go.ChangeShapes Go.WideShapes Go.ChangeAt Go.RowKit Go.Sort
set_option linter.unusedVariables false
set_option linter.unusedSimpArgs false

def growW_ren : Go.Shelf.Ren := ⟨fun | 4 => 45 | n => n, fun | 22 => 34 | 25 => 36 | 3 => 3 | 4 => 4 | 9 => 9 | 20 => 20 | 0 => 0 | n => n, fun | n => n⟩
theorem growW : Go.Proofs.Lays8.n4 Try.prog growW_ren := {
  mixed := by kernel_rfl
  f4 := ⟨Try.f45.name, by decide, Try.func45.trans (congrArg some (by kernel_rfl))⟩
  t0 := Try.underlying0
  a0 := Try.isAgg0
  z0 := Try.sizeOf0
  v0 := Try.zeroValue0
  t3 := Try.underlying3
  a3 := Try.isAgg3
  z3 := Try.sizeOf3
  v3 := Try.zeroValue3
  t4 := Try.underlying4
  a4 := Try.isAgg4
  z4 := Try.sizeOf4
  v4 := Try.zeroValue4
  t9 := Try.underlying9
  a9 := Try.isAgg9
  z9 := Try.sizeOf9
  v9 := Try.zeroValue9
  t20 := Try.underlying20
  a20 := Try.isAgg20
  z20 := Try.sizeOf20
  v20 := Try.zeroValue20
  t22 := Try.underlying34
  a22 := Try.isAgg34
  z22 := Try.sizeOf34
  v22 := Try.zeroValue34 }
theorem wgrow_any (w : World) (n : Nat) (hn : n ≤ 100000000) :
    Calls Try.prog 45 #[.slice none 0 0, .int .i64 n] w fun e w' => ∃ u, e = .returned u ∧ w'.ownsRow w.heap.size 36 2 u 0 [] ∧ Below w.heap.size w w' := by
  rcases Nat.eq_zero_or_pos n with h0 | h0
  · subst h0
    refine (Any8.slices_Grow_room growW none 0 0 0 w (Nat.le_refl _) (by omega) (by omega) (by omega)).mono ?_
    rintro e w' ⟨rfl, rfl⟩
    exact ⟨_, rfl, World.ownsRow_nil _ _ _ _, Below.refl _ _⟩
  · obtain ⟨i, hi, hz, hs, hb⟩ := info_parts elWord.info
    refine (Any8.slices_Grow_grow growW i _ hi hz (by rw [hs]; decide) none 0 0 n [] w (Nat.le_refl _) (by omega) (by rw [hb]; omega) (by omega) (by simp) (fun _ => rfl) (fun a h => by cases h)).mono ?_
    rintro e w' ⟨rfl, rfl⟩
    have hle := grownCap_le_maxLen w (0 + n) 0 (growW_ren.t 25) (by simp only [maxLen]; omega)
    have hge := grownCap_ge w (0 + n) 0 (growW_ren.t 25)
    refine ⟨_, rfl, World.ownsRow_made (base := w.heap.size) (e := 36) (size := 2) w.drew _ _ (Nat.le_refl _) hle ?_, ((Below.refl _ _).drew.alloc (Nat.le_refl _) _)⟩
    rw [Array.size_append, Array.size_append, size_zeroCells, size_zeroCells, elWord.zs]
    generalize grownCap w (0 + n) 0 (growW_ren.t 25) = G at *
    simp
    omega
set_option maxRecDepth 100000 in
set_option maxHeartbeats 4000000 in
/-- Two rows, one behind the other. -/
theorem wconcat_any (w : World) (x y : List Wd) (A1 A2 : Option Addr) (c1 c2 : Nat) (g : Nat) (hR : w.heap[g]? = some (.cells #[.slice A1 x.length c1, .slice A2 y.length c2] 34)) (h1 : Rd w 2 A1 x.length (wcells x)) (h2 : Rd w 2 A2 y.length (wcells y)) (hm : x.length + y.length ≤ 10000000) :
    Calls Try.prog 33 #[.slice (some ⟨g, 0, none⟩) 2 2] w fun e w' => ∃ v, e = .returned v ∧ w'.ownsRow w.heap.size WTy 2 v (x.length + y.length) (wcells (x ++ y)) ∧ Below w.heap.size w w' := by
  have H := Lib.hid (And.intro hR (And.intro h1 (And.intro h2 hm)))
  obtain ⟨r0, r1⟩ := cells2 hR
  have HG := Lib.hid (fun (wr : World) => wgrow_any wr (x.length + y.length) (by omega))
  have i1 : (x.length : Int) + (y.length : Int) ≤ 10000000 := by omega
  obtain ⟨T, hT⟩ : ∃ T, x.length + y.length = T := ⟨_, rfl⟩
  have HT := Lib.hid hT
  rw [hT] at HG
  have iT : (x.length : Int) + (y.length : Int) = (T : Int) := by omega
  clear hR h1 h2 hm hT
  go_enter Try.func33, Try.ntmps33
  go_wp2_with fail
  go_loopw [3, 5, 11] (fun m _ i' wr => ∃ k : Nat, i' = .int .i64 k ∧ Below w.heap.size w wr ∧ ((k = 0 ∧ m = .int .i64 0) ∨ (k = 1 ∧ m = .int .i64 x.length) ∨ (k = 2 ∧ m = .int .i64 T))) (fun _ _ i' _ => 2 - (intOf i').toNat)
  case atStart => exact ⟨0, rfl, Below.refl _ _, .inl ⟨rfl, rfl⟩⟩
  case round =>
    obtain ⟨k, rfl, hb, hk⟩ := hrel
    have HB := Lib.hid hb
    rcases hk with ⟨rfl, rfl⟩ | ⟨rfl, rfl⟩ | ⟨rfl, rfl⟩
    · have r0' := cell_below hb r0
      clear hb r0 r1
      go_wp2_with fail
      go_roundw
      case rel => exact ⟨1, by go_num, HB.out, .inr (.inl ⟨rfl, by go_num⟩)⟩
      case measure => simp [intOf] <;> omega
    · have r1' := cell_below hb r1
      clear hb r0 r1
      go_wp2_with fail
      go_roundw
      case rel => exact ⟨2, by go_num, HB.out, .inr (.inr ⟨rfl, by go_num⟩)⟩
      case measure => simp [intOf] <;> omega
    · clear hb
      go_wp2_with (go_at_call 45; (with_reducible refine (HG.out _).mono ?_); rintro e w1 ⟨u, rfl, hown, hb1⟩; have HO := Lib.hid (And.intro (own_mono hown HB.out.size) (below_then HB.out hb1)); clear hown hb1)
      go_loopw [6, 8, 27] (fun u _ i' wr => ∃ k : Nat, i' = .int .i64 k ∧ Below w.heap.size w wr ∧ ((k = 0 ∧ wr.ownsRow w.heap.size WTy 2 u 0 []) ∨ (k = 1 ∧ wr.ownsRow w.heap.size WTy 2 u x.length (wcells x)) ∨ (k = 2 ∧ wr.ownsRow w.heap.size WTy 2 u (x.length + y.length) (wcells (x ++ y))))) (fun _ _ i' _ => 2 - (intOf i').toNat)
      case atStart => exact ⟨0, rfl, HO.out.2, .inl ⟨rfl, HO.out.1⟩⟩
      case round =>
        obtain ⟨k, rfl, hb, hk⟩ := hrel
        have HB2 := Lib.hid hb
        rcases hk with ⟨rfl, hown⟩ | ⟨rfl, hown⟩ | ⟨rfl, hown⟩
        · have HOW := Lib.hid hown
          have r0' := cell_below hb r0
          have HR := Lib.hid (H.out.2.1.below hb)
          clear hb r0 r1 hown
          go_wp2_with (at_builtin; refine wpList_app elWord _ rfl (.tmp 31) (.tmp 32) rfl w.heap.size _ 0 [] rfl HOW.out A1 x.length c1 _ rfl HR.out (wcells_ones _) (by have := H.out.2.2.2; omega) HB2.out.size ?_; intro v6 w6 hown6 hb6 hg6 hat6; rw [Nat.zero_add, List.nil_append] at hown6; have H6 := Lib.hid (And.intro hown6 hb6); clear hown6 hb6 hg6 hat6)
          go_roundw
          case rel => exact ⟨1, by go_num, HB2.out.trans H6.out.2, .inr (.inl ⟨rfl, H6.out.1⟩)⟩
          case measure => simp [intOf] <;> omega
        · have HOW := Lib.hid hown
          have r1' := cell_below hb r1
          have HR := Lib.hid (H.out.2.2.1.below hb)
          clear hb r0 r1 hown
          go_wp2_with (at_builtin; refine wpList_app elWord _ rfl (.tmp 31) (.tmp 32) rfl w.heap.size _ x.length (wcells x) rfl HOW.out A2 y.length c2 _ rfl HR.out (wcells_ones _) (by have := H.out.2.2.2; omega) HB2.out.size ?_; intro v6 w6 hown6 hb6 hg6 hat6; rw [← wcells_append] at hown6; have H6 := Lib.hid (And.intro hown6 hb6); clear hown6 hb6 hg6 hat6)
          go_roundw
          case rel => exact ⟨2, by go_num, HB2.out.trans H6.out.2, .inr (.inr ⟨rfl, H6.out.1⟩)⟩
          case measure => simp [intOf] <;> omega
        · have HOW := Lib.hid hown
          clear hb hown
          go_wp2_with fail
          go_returns
          exact ⟨_, rfl, HOW.out, HB2.out⟩
end Go.Proofs.Ythblcfhflkapmaa
