/-
  The walk of WordBack, as far as the second call of Unpack.
-/
import Derived.Test.YtjhkblaplfhfcaaWordK
import Derived.Test.YtjhkblaplfhfcaaStr
import Derived.Deep.RegionHeld3
namespace Go.Proofs.Ytjhkblaplfhfcaa
open Go.ChangeShapes Go.WideShapes Go.ChangeAt Go.RowKit
set_option linter.unusedVariables false

/-- 'append' in a region that draws its order. -/
theorem step_app {P : Program} {t e : TypeId} {z : Value} {size bytes : Nat} (T : ElemTy P t e z size bytes) (w : World) {ops : Array Oper} {o : Oper} {a : Act} {K : Act → World → Prop} {Q : Exit → Act → World → Prop} {E : Prop} (hgd : o.guard = none) (s x : Operand)
    (ho : o.op = .call { callee := .builtin .append, args := #[s, x], argTypes := #[t, t] }) (base : Nat)
    (v : Value) (n : Nat) (xs : List Value) (hs : a.eval s = v) (hown : w.ownsRow base e size v n xs) (A : Option Addr) (m c : Nat) (news : List Value) (hx : a.eval x = .slice A m c) (hr : Rd w size A m news) (h1 : ∀ u ∈ news, u.oneCell' = true)
    (hbytes : (n + m) * bytes ≤ 140737488355328) (hbase : base ≤ w.heap.size)
    (h : ∀ v' w', w'.ownsRow base e size v' (n + m) (xs ++ news) → Below base w w' → w.grownBy w' v.ownBlock → (v'.ownBlock = v.ownBlock ∨ v'.ownBlock = some w.heap.size) → K (a.put o.dst v') w') :
    if Region.wanted o (yielded ops a.tmps) = true then Oper.wp P o a w K Q else E := by
  have hw : Region.wanted o (yielded ops a.tmps) = true := by simp [Region.wanted, hgd]
  rw [if_pos hw]
  obtain ⟨v', w', hrun, h2, h3, h4⟩ := run_app T w o.type base v n xs hown A m c news hr h1 hbytes hbase
  unfold Oper.wp execOp
  simp only [ho, resolve, invoke, builtin, Sem.run_bind, Sem.run_pure, Result.andThen_ok, List.map_toArray, List.map_cons, List.map_nil, hs, hx, hrun]
  exact h v' w' h2 ((Below.refl _ _).grown h3 hbase (fun k hk => (hown.lt k hk).1)) h3 h4

theorem Rd.grown_ {w w' : World} {size n : Nat} {A : Option Addr} {cs : List Value} {row : Option Nat} (h : Rd w size A n cs) (hg : w.grownBy w' row) (hr : ∀ a, A = some a → some a.block ≠ row) : Rd w' size A n cs :=
  ⟨h.1, fun h0 => by
    obtain ⟨a, ha, hh⟩ := h.2 h0
    refine ⟨a, ha, fun j u hu => ?_⟩
    exact hg.cell (hh j u hu) (by rw [add_block]; exact hr a ha)⟩
/-- A literal made before, or behind, the row of the call's own. -/
theorem lit_first {w w' : World} {e : TypeId} {cs : Array Value} {size n : Nat} (h : cs.size = n * size) (hg : (((w.alloc (.cells cs e)).alloc (.cells #[] e)).drew).grownBy w' (some (w.heap.size + 1))) : Rd w' size (some ⟨w.heap.size, 0, none⟩) n cs.toList :=
  Rd.grown_ (w := ((w.alloc (.cells cs e)).alloc (.cells #[] e)).drew) ((Rd.lit w cs e h).alloc _) hg (by intro a ha; injection ha with ha; subst ha; simp)
theorem lit_second {w w' : World} {e : TypeId} {cs : Array Value} {size n : Nat} (h : cs.size = n * size) (hg : (((w.alloc (.cells #[] e)).alloc (.cells cs e)).drew).grownBy w' (some w.heap.size)) : Rd w' size (some ⟨w.heap.size + 1, 0, none⟩) n cs.toList := by
  have h1 := Rd.lit (w.alloc (.cells #[] e)) cs e h (fr := (0, 0))
  rw [World.size_alloc] at h1
  exact Rd.grown_ (w := ((w.alloc (.cells #[] e)).alloc (.cells cs e)).drew) h1 hg (by intro a ha; injection ha with ha; subst ha; simp)

theorem Rd.take_ {w : World} {size n m : Nat} {A : Option Addr} {cs : List Value} (h : Rd w size A n cs) (hm : m ≤ n) : Rd w size A m (cs.take (m * size)) := by
  have h1 := h.cut (lo := 0) (hi := m) (k := 0) (by omega) hm (by omega)
  rw [Nat.zero_mul, List.drop_zero, Nat.sub_zero] at h1
  have eB : A.map (fun x => x.add 0) = A := by cases A <;> simp [add_zero]
  rwa [eB] at h1
theorem wcells_take (ws : List Wd) (m : Nat) : (wcells ws).take (m * 2) = wcells (ws.take m) := by
  induction ws generalizing m with
  | nil => simp [wcells]
  | cons p r ih =>
    cases m with
    | zero => simp [wcells]
    | succ m =>
      have e : wcells (p :: r) = .bool p.1 :: .int .i64 p.2 :: wcells r := rfl
      rw [e, show (m + 1) * 2 = m * 2 + 1 + 1 from by omega, List.take_succ_cons, List.take_succ_cons, ih, List.take_succ_cons]
      rfl

theorem head_parts (k s : Int) (h : headOk k s) (w : World) : Calls Try.prog 10 #[.agg #[.bool false, .int .i64 (16 * s + k)]] w fun e w' => e = .returned (.tuple #[.int .i64 k, .int .i64 s, .bool true]) ∧ Below w.heap.size w w' := by
  have h1 := parts_yes (16 * s + k) (by unfold headOk at h; omega) (by unfold headOk at h; omega) w
  rw [show (16 * s + k) % 16 = k from by unfold headOk at h; omega, show (16 * s + k) / 16 = s from by unfold headOk at h; omega] at h1
  exact h1

theorem back_small (A : Option Addr) (b : List UInt8) (n c : Nat) (k s : Int) (p : Bool) (x : Int) (hn : n = b.length) (hnc : n ≤ c) (hs : n ≤ 2000) (w : World) (hrb : Rd w 1 A n (u8s b)) :
    Calls Try.prog 5 #[.slice A n c, .int .i64 k, .int .i64 s, .agg #[.bool p, .int .i64 x]] w fun e w' => e = .returned (.bool true) ∧ Below w.heap.size w w' := by
  have HN := Lib.hid hn
  have hbl : b.length ≤ 2000 := by omega
  clear hn
  have kc := fun (W : World) (A : Option Addr) (n c : Nat) (l : List UInt8) (h : Rd W 1 A n (u8s l)) => run_bytes_string (P := Try.prog) Try.underlying42 Try.underlying5 Try.underlying9 h c
  have KC := Lib.hid kc
  clear kc
  go_enter Try.func5, Try.ntmps5
  go_wp2_with fail
  refine (up_any _).mono ?_
  rintro e w1 ⟨rfl, hb1⟩
  have d1 : w1.cell? ⟨w.heap.size, 0, none⟩ = some (.bool p) := cell_below hb1 (cell_new w _ _ 0 rfl)
  have d2 : w1.cell? ⟨w.heap.size, 1, none⟩ = some (.int .i64 x) := cell_below hb1 (cell_new w _ _ 1 rfl)
  have hb1' : Below w.heap.size w w1 := below_then ((Below.refl _ _).alloc (Nat.le_refl _) _) hb1
  clear hb1
  go_wp2_with fail
  refine (pack_any A b n c HN.out hnc _ (hrb.below hb1') (by omega)).mono ?_
  rintro e w2 ⟨v2, rfl, hown2, hb2⟩
  obtain ⟨A2, c2, rfl, hle2, _, _⟩ := own_cap hown2
  have hrd2 : Rd w2 2 A2 (wordsN b) (wcells (pw b)) := Rd.of_own hown2
  have d3 := cell_below hb2 d1
  have d4 := cell_below hb2 d2
  have hb2' := below_then hb1' hb2
  clear hb2 hown2 d1 d2
  go_wp2_with fail
  have HWN : Hid (wordsN b = (pw b).length) := by show _ = _; rw [pw_length]; rfl
  have hpl : (pw b).length ≤ 300 := by rw [pw_length]; unfold packN; omega
  refine (unpack_yes A2 (pw b) _ c2 HWN.out _ hrd2 (by omega) (pw_packed b)).mono ?_
  have enb : nBytes (pw b) = b.length := by unfold nBytes; rw [pw_zero]; omega
  rw [enb, pw_bytes]
  rintro e w3 ⟨v3, rfl, hown3, hb3⟩
  obtain ⟨A3, c3, rfl, hle3, _, _⟩ := own_cap hown3
  have hrd3 := Rd.of_own hown3
  have d5 := cell_below hb3 d3
  have d6 := cell_below hb3 d4
  have hb3' := below_then hb2' hb3
  have hrdl := hrd2.below hb3
  clear hb3 hown3 d3 d4 enb
  go_wp2_with fail
  have hz : w.heap.size < w3.heap.size := World.block_lt_of_cell? w3 _ d5
  have HO : (((w3.alloc (.cells #[.bool p, .int .i64 x] 23)).alloc (.cells #[] 23)).drew).ownsRow w3.heap.size 23 2 (.slice (some ⟨w3.heap.size + 1, 0, none⟩) 0 0) 0 [] := by
    have h := World.ownsRow_lit (base := w3.heap.size) (w3.alloc (.cells #[.bool p, .int .i64 x] 23)) (e := 23) (size := 2) #[] 0 (by simp) (by simp [maxLen]) rfl
    rw [World.size_alloc] at h
    exact h.drew
  have HWL := Lib.hid (show wordsN b ≤ 300 from by rw [HWN.out]; exact hpl)
  go_region_held3 (fun w' => w'.cell? ⟨w.heap.size, 0, none⟩ = some (.bool p) ∧ w'.cell? ⟨w.heap.size, 1, none⟩ = some (.int .i64 x))
    (first | exact ⟨(Below.cell hbz hz).trans d5, (Below.cell hbz hz).trans d6⟩ | go_keep | (refine ⟨?_, ?_⟩ <;> (rw [Below.cell hbx (by simpa using hz)]; simp [*]; done)) | (refine ⟨?_, ?_⟩ <;> (rw [Below.cell hby (by simpa using hz)]; simp [*]; done)))
    (first
      | ((refine step_app elWord _ (by rfl) (.tmp 37) (.tmp 38) (by rfl) w3.heap.size (.slice (some ⟨_, 0, none⟩) 0 0) 0 [] (by rfl) (by first | exact World.ownsRow_lit (base := w3.heap.size) _ #[] 0 (by simp) (by simp [maxLen]) rfl | exact (World.ownsRow_lit (base := w3.heap.size) _ #[] 0 (by simp) (by simp [maxLen]) rfl).alloc _ | exact HO) A2 (wordsN b) c2 (wcells (pw b)) (by rfl) (by first | exact Rd.alloc hrdl _ | exact Rd.alloc (Rd.alloc hrdl _) _) (wcells_one _) (by have := HWL.out; omega) (by (try simp); (try omega)) ?_); intro v4 w4 hown4 hbx hg4 hat4; (try simp only [Nat.zero_add, List.nil_append] at hown4); (try have hlit := lit_first (cs := #[.bool p, .int .i64 x]) (size := 2) (n := 1) rfl hg4); (try have hlit := lit_second (cs := #[.bool p, .int .i64 x]) (size := 2) (n := 1) rfl hg4); clear hg4 hat4)
      | ((refine step_app elWord _ (by rfl) (.tmp 39) (.tmp 41) (by rfl) w3.heap.size v4 (wordsN b) (wcells (pw b)) (by rfl) (by first | exact hown4 | exact hown4.alloc _) (some ⟨_, 0, none⟩) 1 1 [.bool p, .int .i64 x] (by rfl) (by first | exact hlit | exact Rd.lit _ _ _ rfl) (wcells_one [(p, x)]) (by have := HWL.out; omega) (by have := hbx.size; (try simp at this); (try simp); omega) ?_); intro v5 w5 hown5 hby hg5 hat5; clear hg5 hat5; obtain ⟨A5, c5, rfl, hle5, _, _⟩ := own_cap hown5)
      | (go_at_call 15; refine (unpack_no A5 (pw b ++ [(p, x)]) (wordsN b + 1) c5 (by rw [List.length_append, HWN.out]; rfl) _ (by have h := Rd.of_own hown5; rw [wcells_append]; exact h) (by rw [List.length_append]; simp; omega) (pw_more b (p, x))).mono ?_; rintro e w6 ⟨rfl, hb6⟩
         have hsz : w3.heap.size ≤ w4.heap.size := by have := hbx.size; (try simp at this); omega
         have hsz5 : w3.heap.size ≤ w5.heap.size := by have := hby.size; (try simp at this); omega
         have hbz : Below w3.heap.size w3 w6 := by
           refine Below.trans ?_ (hb6.mono hsz5)
           refine Below.trans ?_ hby
           have hst : Below w3.heap.size w3 w4 := by
             refine Below.trans ?_ hbx
             go_grown
           first | exact hst | exact hst.alloc hsz _ | exact (hst.alloc hsz _).drew | exact hst.drew
         clear hb6 hby hbx hown4 hown5))
  all_goals
    have hs1 := KC.out w6 A3 _ c3 _ (hrd3.below hbz)
    have hs2 := KC.out w6 A n c b ((hrb.below hb3').below hbz)
    have hrdz := hrdl.below hbz
    have hb6 := below_then hb3' hbz
    have hwl : wordsN b ≤ 300 := HWL.out
    have ew : wordsN b = packN b + 1 := by unfold wordsN; omega
    clear hbz hrdl hb3' HO hz d5 d6 hb2' hb1' hrd2 HWL KC
    have hle2' := hle2
    have hle5' := hle5
    clear hle2 hle5
    rw [ew] at hrdz hwl hle2' hle5'
    have hpl' : (pw b).length = packN b + 1 := by rw [← HWN.out, ew]
    have HPL := Lib.hid hpl'
    have HRZ := Lib.hid hrdz
    clear hpl' hrdz HWN
    rw [ew]
    clear ew
    have hwz : (((packN b : Nat) : Int) + 1 == 0) = false := by rw [beq_eq_false_iff_ne]; omega
    go_wp2_with fail
    refine (unpack_no A2 ((pw b).take (packN b)) (packN b) c2 (by rw [List.length_take, HPL.out]; omega) _ (by rw [← wcells_take]; exact HRZ.out.take_ (by omega)) (by rw [List.length_take, HPL.out]; omega) (pw_less b)).mono ?_
    rintro e w7 ⟨rfl, hb7⟩
    go_wp2_with fail
    by_cases hk : headOk k s
    · have HK := Lib.hid hk
      clear hk
      refine (head_yes k s HK.out _).mono ?_
      rintro e w8 ⟨rfl, hb8⟩
      go_wp2_with fail
      refine (head_parts k s HK.out _).mono ?_
      rintro e w9 ⟨rfl, hb9⟩
      have c0 : w9.cell? ⟨w8.heap.size, 0, none⟩ = some (.bool false) := cell_below hb9 (cell_new w8 _ _ 0 rfl)
      have c1 : w9.cell? ⟨w8.heap.size, 1, none⟩ = some (.int .i64 (16 * s + k)) := cell_below hb9 (cell_new w8 _ _ 1 rfl)
      go_wp2_with fail
      refine (moved_int _ _).mono ?_
      rintro e w10 ⟨rfl, hb10⟩
      go_wp2_with fail
      go_returns
      exact ⟨rfl, below_then hb6 (below_then hb7 (below_then hb8 (below_then ((Below.refl _ _).alloc (Nat.le_refl _) _) (below_then hb9 hb10))))⟩
    · have HK := Lib.hid hk
      clear hk
      refine (head_no k s HK.out _).mono ?_
      rintro e w8 ⟨rfl, hb8⟩
      go_wp2_with fail
      go_returns
      exact ⟨rfl, below_then hb6 (below_then hb7 (below_then hb8 ((Below.refl _ _).alloc (Nat.le_refl _) _)))⟩

theorem back_big (A : Option Addr) (n c : Nat) (k s : Int) (p : Bool) (x : Int) (hs : 2000 < n) (hn64 : n ≤ maxLen) (w : World) :
    Calls Try.prog 5 #[.slice A n c, .int .i64 k, .int .i64 s, .agg #[.bool p, .int .i64 x]] w fun e w' => e = .returned (.bool true) ∧ Below w.heap.size w w' := by
  unfold maxLen at hn64
  go_enter Try.func5, Try.ntmps5
  go_wp2_with fail
  refine (up_any _).mono ?_
  rintro e w1 ⟨rfl, hb1⟩
  go_wp2_with fail
  go_returns
  exact ⟨rfl, below_then ((Below.refl _ _).alloc (Nat.le_refl _) _) hb1⟩
end Go.Proofs.Ytjhkblaplfhfcaa
