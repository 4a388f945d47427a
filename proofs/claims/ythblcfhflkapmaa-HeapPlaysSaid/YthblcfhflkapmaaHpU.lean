/-
  The heap: 'add'.
-/
import Derived.Test.YthblcfhflkapmaaHpT
namespace Go.Proofs.Ythblcfhflkapmaa
open Go Go.ChangeShapes Go.WideShapes Go.ChangeAt Go.RowKit Go.Sort
set_option linter.unusedVariables false
set_option linter.unusedSimpArgs false

theorem bcells_ones (l : List Bool) : ∀ u ∈ bcells l, u.oneCell' = true := by
  intro u hu
  obtain ⟨x, _, rfl⟩ := List.mem_map.1 hu
  rfl
/-- Two appends, one behind the other. -/
theorem grow_two {w2 w3 w4 : World} {V v3 v4 : Value} {B : Nat} (h3 : w2.grownBy w3 V.ownBlock) (a3 : v3.ownBlock = V.ownBlock ∨ v3.ownBlock = some w2.heap.size) (h4 : w3.grownBy w4 v3.ownBlock) (a4 : v4.ownBlock = v3.ownBlock ∨ v4.ownBlock = some w3.heap.size) (b3 : Below B w2 w3) (b4 : Below B w3 w4) :
    (∀ b, b < w2.heap.size → some b ≠ V.ownBlock → w4.heap[b]? = w2.heap[b]?) ∧ w2.heap.size ≤ w4.heap.size ∧ Below B w2 w4 ∧ (v4.ownBlock = V.ownBlock ∨ ∃ g, v4.ownBlock = some g ∧ w2.heap.size ≤ g) := by
  have s3 := b3.size
  have s4 := b4.size
  refine ⟨fun b hl hne => ?_, Nat.le_trans s3 s4, b3.trans b4, ?_⟩
  · rw [h4.block b (Nat.lt_of_lt_of_le hl s3) (fun e => ?_), h3.block b hl hne]
    rcases a3 with q | q
    · exact hne (e.trans q)
    · rw [q] at e
      injection e with e
      omega
  · rcases a4 with q | q
    · rcases a3 with r | r
      · exact .inl (q.trans r)
      · exact .inr ⟨_, q.trans r, Nat.le_refl _⟩
    · exact .inr ⟨_, q, s3⟩
theorem grow_one {w2 w3 : World} {V v3 : Value} {B : Nat} (h3 : w2.grownBy w3 V.ownBlock) (a3 : v3.ownBlock = V.ownBlock ∨ v3.ownBlock = some w2.heap.size) (b3 : Below B w2 w3) :
    (∀ b, b < w2.heap.size → some b ≠ V.ownBlock → w3.heap[b]? = w2.heap[b]?) ∧ w2.heap.size ≤ w3.heap.size ∧ Below B w2 w3 ∧ (v3.ownBlock = V.ownBlock ∨ ∃ g, v3.ownBlock = some g ∧ w2.heap.size ≤ g) :=
  ⟨fun b hl hne => h3.block b hl hne, b3.size, b3, a3.imp id (fun q => ⟨_, q, Nat.le_refl _⟩)⟩
section
variable {w : World} {B pb po n : Nat} {T : TypeId} {cs : Array Value} {V G : Value} {X Y : List Value}
set_option maxRecDepth 100000 in
set_option maxHeartbeats 8000000 in
theorem add_any (hp : w.heap[pb]? = some (.cells cs T)) (hT : T ≠ WTy ∧ T ≠ BTy) (hc0 : cs[po]? = some V) (hc1 : cs[po + 1]? = some G) (fw : w.ownsRow B WTy 2 V n X) (fg : w.ownsRow B BTy 1 G n Y) (hpB : B ≤ pb) (hd : Wd) (A : Option Addr) (l : List Wd) (c : Nat) (hl : Rd w 2 A l.length (wcells l)) (hA : ∀ a, A = some a → 0 < l.length → some a.block ≠ V.ownBlock) (hn : n + l.length ≤ 8000000) :
    Calls Try.prog 34 #[.pointer (some ⟨pb, po, none⟩), .agg #[.bool hd.ptr, .int .i64 hd.v], .slice A l.length c] w fun e w' => e = .returned (.int .i64 n) ∧ ∃ cs' V1 G1, AS w B pb po T cs V G (n + 1 + l.length) (X ++ wcells [hd] ++ wcells l) (n + 1 + l.length) (Y ++ bcells (true :: List.replicate l.length false)) w' cs' V1 G1 := by
  have hBw : B ≤ w.heap.size := Nat.le_trans hpB (Nat.le_of_lt (lt_of_heap hp))
  have hb1 : Below w.heap.size w (w.alloc (.cells #[.bool hd.ptr, .int .i64 hd.v] 36)) := (Below.refl _ _).alloc (Nat.le_refl _) _
  have hx := heap_new (w := w) (o := .cells #[.bool hd.ptr, .int .i64 hd.v] 36) rfl
  obtain ⟨W1, hW1⟩ : ∃ W1, w.alloc (.cells #[.bool hd.ptr, .int .i64 hd.v] 36) = W1 := ⟨_, rfl⟩
  have HW1 := Lib.hid hW1
  rw [hW1] at hb1 hx
  have AS0 : AS w B pb po T cs V G n X n Y w cs V G := ⟨hp, rfl, fun _ _ _ => rfl, hc0, hc1, fw, fg, .inl rfl, .inl rfl, fun _ _ _ _ _ => rfl, Nat.le_refl _, Below.refl _ _⟩
  have AS1 := AS0.below hb1 hBw
  have hb2 : Below W1.heap.size W1 ((W1.alloc (.cells #[.bool hd.ptr, .int .i64 hd.v] 36)).drew) := ((Below.refl _ _).alloc (Nat.le_refl _) _).drew
  have AS2 := AS1.below hb2 (Nat.le_trans hBw hb1.size)
  obtain ⟨A0, k0, rfl, _⟩ := own_cap fw
  obtain ⟨A1, k1, rfl, _⟩ := own_cap fg
  obtain ⟨x0, x1, _, _⟩ := AS1.cells
  obtain ⟨x0', x1', _, _⟩ := AS2.cells
  replace x0' : (W1.alloc (.cells #[.bool hd.ptr, .int .i64 hd.v] 36)).cell? ⟨pb, po, none⟩ = some (.slice A0 n k0) := x0'
  obtain ⟨c0, c1⟩ := cells2 hx
  have HLIT := Lib.hid (show Rd ((W1.alloc (.cells #[.bool hd.ptr, .int .i64 hd.v] 36)).drew) 2 (some ⟨W1.heap.size, 0, none⟩) 1 (wcells [hd]) from (Rd.lit (size := 2) (n := 1) W1 #[.bool hd.ptr, .int .i64 hd.v] 36 rfl (fr := (0, 0))).below (below_drew1 _))
  have HH := Lib.hid (And.intro hT (And.intro hpB (And.intro hBw (And.intro hb1 (And.intro hb2 hn)))))
  have HA2 := Lib.hid AS2
  have HLA := Lib.hid (And.intro hl hA)
  have HOV : RowKit.Hid (∀ (v4 : Value) (w4 : World), w4.ownsRow B WTy 2 v4 (n + 1 + l.length) (X ++ wcells [hd] ++ wcells l) → _ → _ → _ → _ → _) := Lib.hid (fun (v4 : Value) (w4 : World) (ho : w4.ownsRow B WTy 2 v4 (n + 1 + l.length) (X ++ wcells [hd] ++ wcells l)) hk hs hb hat => AS2.putV hT hpB ho hk hs hb hat)
  clear hp hc0 hc1 fw fg hpB hl hA hBw hb1 hx hW1 AS0 AS1 AS2 hb2
  go_enter Try.func34, Try.ntmps34
  go_upto_region 1 with fail
  rw [HW1.out]
  go_upto_region 2 with fail
  go_region_law (first
    | ((refine step_app elWord ((W1.alloc (.cells #[.bool hd.ptr, .int .i64 hd.v] 36)).drew) (by rfl) (.tmp 17) (.tmp 19) (by rfl) B (.slice A0 n k0) n X (by rfl) HA2.out.fw (some ⟨W1.heap.size, 0, none⟩) 1 1 (wcells [hd]) (by rfl) HLIT.out (wcells_ones _) (by have := HH.out.2.2.2.2.2; omega) (Nat.le_trans (Nat.le_trans HH.out.2.2.1 HH.out.2.2.2.1.size) HH.out.2.2.2.2.1.size) ?_)
       intro v3 w3 hown3 hgrow3 hat3
       have hb3 : Below B ((W1.alloc (.cells #[.bool hd.ptr, .int .i64 hd.v] 36)).drew) w3 := (Below.refl _ _).grown hgrow3 (Nat.le_trans (Nat.le_trans HH.out.2.2.1 HH.out.2.2.2.1.size) HH.out.2.2.2.2.1.size) (fun k hk => (HA2.out.fw.lt k hk).1)
       have hl3 : Rd w3 2 A l.length (wcells l) := HLA.out.1.keepB (fun a ha h0 hlt => (hgrow3.block _ (Nat.lt_of_lt_of_le hlt (Nat.le_trans HH.out.2.2.2.1.size HH.out.2.2.2.2.1.size)) (HLA.out.2 a ha (by rw [wcells_len] at h0; omega))).trans ((HH.out.2.2.2.2.1.block _ (Nat.lt_of_lt_of_le hlt HH.out.2.2.2.1.size)).trans (HH.out.2.2.2.1.block _ hlt)))
       have H3 := Lib.hid (And.intro hown3 (And.intro hgrow3 (And.intro hat3 (And.intro hb3 hl3))))
       clear hown3 hgrow3 hat3 hb3 hl3)
    | ((refine step_app elWord w3 (by rfl) (.tmp 20) (.tmp 21) (by rfl) B v3 (n + 1) _ (by rfl) H3.out.1 A l.length c (wcells l) (by rfl) H3.out.2.2.2.2 (wcells_ones _) (by have := HH.out.2.2.2.2.2; omega) (Nat.le_trans (Nat.le_trans (Nat.le_trans HH.out.2.2.1 HH.out.2.2.2.1.size) HH.out.2.2.2.2.1.size) H3.out.2.2.2.1.size) ?_)
       intro v4 w4 hown4 hgrow4 hat4
       have hb4 : Below B w3 w4 := (Below.refl _ _).grown hgrow4 (Nat.le_trans (Nat.le_trans (Nat.le_trans HH.out.2.2.1 HH.out.2.2.2.1.size) HH.out.2.2.2.2.1.size) H3.out.2.2.2.1.size) (fun k hk => (H3.out.1.lt k hk).1)
       obtain ⟨g1, g2, g3, g4⟩ := grow_two H3.out.2.1 H3.out.2.2.1 hgrow4 hat4 H3.out.2.2.2.1 hb4
       obtain ⟨d0, f0, as5⟩ := HOV.out v4 w4 hown4 g1 g2 g3 g4
       obtain ⟨A4, k4, rfl, _⟩ := own_cap hown4
       have H5 := Lib.hid as5
       clear as5 g1 g2 g3 g4 hb4 hown4 hgrow4 hat4)
    | go_simp)
  all_goals
    have HB5 := Lib.hid (Nat.le_trans HH.out.2.2.1 H5.out.le)
    clear x0 x0' x1 x1' c0 c1 d0 f0
    generalize w4.setCell ⟨pb, po, none⟩ (.slice A4 (n + 1 + l.length) k4) = w5 at *
    obtain ⟨z0, z1, _, _⟩ := H5.out.cells
    have hb6 : Below w5.heap.size w5 (w5.alloc (.cells #[.bool true] 4)) := (Below.refl _ _).alloc (Nat.le_refl _) _
    have H6 := Lib.hid (H5.out.below hb6 HB5.out)
    have HB6 := Lib.hid (Nat.le_trans HB5.out hb6.size)
    have HL6 := Lib.hid (show Rd (w5.alloc (.cells #[.bool true] 4)) 1 (some ⟨w5.heap.size, 0, none⟩) 1 (bcells [true]) from Rd.lit (size := 1) (n := 1) w5 #[.bool true] 4 rfl (fr := (0, 0)))
    clear hb6
    go_wp2_with (at_builtin; refine wpList_app elBool _ rfl (.tmp 29) (.tmp 30) rfl B _ n Y rfl H6.out.fg (some ⟨w5.heap.size, 0, none⟩) 1 1 (bcells [true]) rfl HL6.out (bcells_ones _) (by have := HH.out.2.2.2.2.2; omega) HB6.out ?_; intro v7 w7 hown7 hb7 hg7 hat7; obtain ⟨g1, g2, g3, g4⟩ := grow_one hg7 hat7 hb7; obtain ⟨d7, f7, as8⟩ := H6.out.putG HH.out.1 HH.out.2.1 hown7 g1 g2 g3 g4; obtain ⟨A7, k7, rfl, _⟩ := own_cap hown7; have H8 := Lib.hid as8; clear as8 g1 g2 g3 g4 hown7 hb7 hg7 hat7)
    clear z0 z1 d7 f7
    generalize w7.setCell ⟨pb, po + 1, none⟩ (.slice A7 (n + 1) k7) = w8 at *
    go_loopw [36] (fun i wr => ∃ (k : Nat) (cs' : Array Value) (V1 G1 : Value), i = .int .i64 k ∧ k ≤ l.length ∧ AS w B pb po T cs (.slice A0 n k0) (.slice A1 n k1) (n + 1 + l.length) (X ++ wcells [hd] ++ wcells l) (n + 1 + k) (Y ++ bcells (true :: List.replicate k false)) wr cs' V1 G1) (fun i _ => l.length - (intOf i).toNat)
    case atStart => exact ⟨0, _, _, _, rfl, Nat.zero_le _, H8.out⟩
    case round =>
      obtain ⟨k, cs', V1, G1, rfl, hk, has⟩ := hrel
      have HAS := Lib.hid has
      obtain ⟨z0, z1, _, _⟩ := has.cells
      have HBr := Lib.hid (Nat.le_trans HH.out.2.2.1 has.le)
      clear has
      by_cases hlt : k < l.length
      · have n1 : (k : Int) < (l.length : Int) := by omega
        have n2 : (l.length : Int) ≤ 8000000 := by have := HH.out.2.2.2.2.2; omega
        have hb9 : Below wr.heap.size wr (wr.alloc (.cells #[.bool false] 4)) := (Below.refl _ _).alloc (Nat.le_refl _) _
        have H9 := Lib.hid (HAS.out.below hb9 HBr.out)
        have HB9 := Lib.hid (Nat.le_trans HBr.out hb9.size)
        have HL9 := Lib.hid (show Rd (wr.alloc (.cells #[.bool false] 4)) 1 (some ⟨wr.heap.size, 0, none⟩) 1 (bcells [false]) from Rd.lit (size := 1) (n := 1) wr #[.bool false] 4 rfl (fr := (0, 0)))
        clear hb9
        go_wp2_with (at_builtin; refine wpList_app elBool _ rfl (.tmp 42) (.tmp 43) rfl B _ _ _ rfl H9.out.fg (some ⟨wr.heap.size, 0, none⟩) 1 1 (bcells [false]) rfl HL9.out (bcells_ones _) (by have := HH.out.2.2.2.2.2; omega) HB9.out ?_; intro v9 w9 hown9 hb9 hg9 hat9; obtain ⟨g1, g2, g3, g4⟩ := grow_one hg9 hat9 hb9; obtain ⟨d9, f9, as9⟩ := H9.out.putG HH.out.1 HH.out.2.1 hown9 g1 g2 g3 g4; obtain ⟨A9, k9, rfl, _⟩ := own_cap hown9; have H10 := Lib.hid as9; clear as9 g1 g2 g3 g4 hown9 hb9 hg9 hat9)
        go_roundw
        case rel => exact ⟨k + 1, _, _, _, by go_num, hlt, by
          have h := H10.out
          rw [List.append_assoc Y (bcells _) (bcells _), ← bcells_append] at h
          rw [List.replicate_succ', ← List.cons_append]
          exact h⟩
        case measure => simp [intOf] <;> omega
      · have hkk : k = l.length := by omega
        subst hkk
        clear z0 z1 hk
        go_wp2_with fail
        go_returns
        exact ⟨rfl, _, _, _, HAS.out⟩
end
end Go.Proofs.Ythblcfhflkapmaa
