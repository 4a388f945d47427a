/-
  The writer: a strings.Builder as a struct's one field. What it gathers.
-/
import Derived.Test.YtaglmmcjhlehjaaDoorExB
import Derived.Lib.Builder
import Derived.Lib.AppendStr
import Derived.Lib.UnsafeStr
import Derived.Laws.Externs
namespace Go.Proofs.YtaglmmcjhlehjaaDoor
open Go.ChangeShapes Go.WideShapes Go.ChangeAt Go.RowKit
set_option linter.unusedVariables false
set_option linter.unusedSimpArgs false

abbrev WT : TypeId := 40
abbrev U8 : TypeId := 5
/-- The writer in block b holds a text. -/
def Wd (B b : Nat) (s : Str) (w : World) : Prop := Lib.IsBuilder WT U8 B b (u8s s) w
/-- Rows of another type stay. -/
def Keeps (w w' : World) : Prop := ∀ (k : Nat) (cs : Array Value) (T : TypeId) (fr : Nat × Nat), w.heap[k]? = some (.cells cs T fr) → T ≠ WT → T ≠ U8 → w'.heap[k]? = some (.cells cs T fr)
theorem Keeps.refl (w : World) : Keeps w w := fun _ _ _ _ h _ _ => h
theorem Keeps.trans {a b c : World} (h : Keeps a b) (k : Keeps b c) : Keeps a c := fun q cs T fr hq h1 h2 => k q cs T fr (h q cs T fr hq h1 h2) h1 h2
theorem lt_of_heap {w : World} {k : Nat} {o : Obj} (h : w.heap[k]? = some o) : k < w.heap.size := by
  rcases Nat.lt_or_ge k w.heap.size with h' | h'
  · exact h'
  · rw [Array.getElem?_eq_none h'] at h; cases h
theorem Keeps.of_below {w w' : World} (h : RowKit.Below w.heap.size w w') : Keeps w w' := fun k cs T fr hk _ _ => by rw [h.block k (lt_of_heap hk)]; exact hk
theorem Wd.lt {B b : Nat} {s : Str} {w : World} (h : Wd B b s w) : b < w.heap.size := by
  rcases h with h | h <;> exact h.lt
theorem Wd.ge {B b : Nat} {s : Str} {w : World} (h : Wd B b s w) : B ≤ b := by
  rcases h with h | h <;> exact h.1
theorem builder_below {B b : Nat} {p : Value} {bs : List Value} {w w' : World} (h : Lib.BuilderAt WT U8 B b p bs w) (hb : RowKit.Below w.heap.size w w') : Lib.BuilderAt WT U8 B b p bs w' := by
  obtain ⟨hB, v, hk, hown, hne⟩ := h
  refine ⟨hB, v, by rw [hb.block b (lt_of_heap hk)]; exact hk, ?_, hne⟩
  obtain ⟨h1, h2⟩ := hown
  refine ⟨h1, ?_⟩
  rcases h2 with h2 | ⟨g, cap, cur, hv, hg, hgc, r⟩
  · exact .inl h2
  · exact .inr ⟨g, cap, cur, hv, hg, by rw [hb.block g (lt_of_heap hgc)]; exact hgc, r⟩
theorem Wd.below {B b : Nat} {s : Str} {w w' : World} (h : Wd B b s w) (hb : RowKit.Below w.heap.size w w') : Wd B b s w' := by
  rcases h with h | h
  · exact .inl (builder_below h hb)
  · exact .inr (builder_below h hb)
theorem wd_new (w : World) : Wd w.heap.size w.heap.size [] (w.alloc (.cells #[.pointer none, .slice none 0 0] WT)) := Lib.fresh_isBuilder WT U8 w
theorem wt_ne : WT ≠ U8 := by decide

set_option maxHeartbeats 1000000 in
set_option maxRecDepth 100000 in
theorem copyUsed_any (b : Nat) (w : World) (h0 : w.cell? ⟨b, 0, none⟩ = some (.pointer (some ⟨b, 0, none⟩))) :
    Calls Tryd.prog 32 #[.pointer (some ⟨b, 0, none⟩)] w fun e w' => e = .returned (.tuple #[]) ∧ w' = w := by
  obtain ⟨j, hj, hjs⟩ : ∃ j, Tryd.prog.info? 38 = some j ∧ j.size = 2 := Option.map_eq_some_iff.1 (show (Tryd.prog.info? 38).map (·.size) = some 2 by kernel_rfl)
  have hN := Lib.run_neq_ptr_same (P := Tryd.prog) w ⟨b, 0, none⟩ Tryd.underlying35 hj
  go_enter Tryd.func32, Tryd.ntmps32
  go_wp2
  go_end0
  exact ⟨rfl, rfl⟩

set_option maxHeartbeats 1000000 in
set_option maxRecDepth 100000 in
theorem copyFresh_any (b : Nat) (w : World) (h0 : w.cell? ⟨b, 0, none⟩ = some (.pointer none)) (hsh : w.shape? b = some (WT, 2)) (hfz : w.frozen? ⟨b, 0, none⟩ = false) :
    Calls Tryd.prog 32 #[.pointer (some ⟨b, 0, none⟩)] w fun e w' => e = .returned (.tuple #[]) ∧ w' = w.setCell ⟨b, 0, none⟩ (.pointer (some ⟨b, 0, none⟩)) := by
  obtain ⟨j, hj, hjs⟩ : ∃ j, Tryd.prog.info? 38 = some j ∧ j.size = 2 := Option.map_eq_some_iff.1 (show (Tryd.prog.info? 38).map (·.size) = some 2 by kernel_rfl)
  have hU := Lib.run_to_unsafe (P := Tryd.prog) w (src := 35) (dst := 69) ⟨b, 0, none⟩ Tryd.underlying35 Tryd.underlying69 hj (by rw [hjs]; decide) hsh (Nat.zero_lt_succ 1)
  have hF := Lib.run_from_unsafe (P := Tryd.prog) w (src := 69) (dst := 35) ⟨b, 0, none⟩ Tryd.underlying69 Tryd.underlying35 hj hsh (by kernel_rfl)
  have hE := run_callFunc_extern (P := Tryd.prog) (w := w) (args := #[.pointer (some ⟨b, 0, none⟩)]) Tryd.func41 (by kernel_rfl) (by kernel_rfl) (by kernel_rfl) (e := Extern.AbiNoEscape.same) (by kernel_rfl)
  rw [Lib.run_noEscape] at hE
  go_enter Tryd.func32, Tryd.ntmps32
  go_wp2
  go_end0
  exact ⟨rfl, rfl⟩

theorem copy_any (B b : Nat) (bs : List Value) (w : World) (h : Lib.IsBuilder WT U8 B b bs w) :
    Calls Tryd.prog 32 #[.pointer (some ⟨b, 0, none⟩)] w fun e w' => e = .returned (.tuple #[]) ∧ Lib.BuilderAt WT U8 B b (.pointer (some ⟨b, 0, none⟩)) bs w' ∧ Below B w w' ∧ Keeps w w' := by
  rcases h with h | h
  · refine (copyFresh_any b w h.cell0 h.shape h.frozen0).mono ?_
    rintro e w' ⟨rfl, rfl⟩
    refine ⟨rfl, h.used _, (Below.refl B w).setCell (p := ⟨b, 0, none⟩) h.1 _, ?_⟩
    intro k cs T fr hk h1 h2
    have hkb : k ≠ b := by
      rintro rfl
      obtain ⟨_, v, hv, _⟩ := h
      rw [hv] at hk
      injection hk with hk
      injection hk with _ hk _
      exact h1 hk.symm
    rw [show (w.setCell ⟨b, 0, none⟩ (.pointer (some ⟨b, 0, none⟩))).heap[k]? = w.heap[k]? from Below.heap_setCell _ _ _ _ (by exact hkb)]
    exact hk
  · refine (copyUsed_any b w h.cell0).mono ?_
    rintro e w' ⟨rfl, rfl⟩
    exact ⟨rfl, h, Below.refl B _, Keeps.refl _⟩

theorem u8s_strCells (s : Str) : Lib.strCells (bstr s) = u8s s := by rw [Lib.strCells, bstr_data]; rfl

set_option maxHeartbeats 2000000 in
set_option maxRecDepth 100000 in
theorem write_any (B b : Nat) (acc s : Str) (w : World) (h : Wd B b acc w) (hlen : acc.length + s.length ≤ 140737488355328) (hBw : B ≤ w.heap.size) :
    Calls Tryd.prog 21 #[.pointer (some ⟨b, 0, none⟩), .string (bstr s)] w fun e w' => (∃ v, e = .returned v) ∧ Wd B b (acc ++ s) w' ∧ Below B w w' ∧ Keeps w w' := by
  obtain ⟨i0, hi, hz0, hz1, hz2⟩ := info_parts (show (Tryd.prog.info? 5).map (fun i => (i.zero, i.size, i.bytes)) = some (some (.int .u8 0), 1, 1) by kernel_rfl)
  have hsz : (bstr s).size = s.length := bstr_size s
  have HC := Lib.hid (copy_any B b (u8s acc) w h)
  clear h
  go_enter Tryd.func21, Tryd.ntmps21
  go_wp2_with fail
  refine HC.out.mono ?_
  rintro e w1 ⟨rfl, h1, hb1, hk1⟩
  have HK1 := Lib.hid hk1
  clear hk1 HC
  obtain ⟨hB, v, hbk, hown, hne⟩ := h1
  have c0 : w1.cell? ⟨b, 0, none⟩ = some (.pointer (some ⟨b, 0, none⟩)) := by rw [Lib.cell_of_heap hbk]; rfl
  have c1 : w1.cell? ⟨b, 1, none⟩ = some v := by rw [Lib.cell_of_heap hbk]; rfl
  go_wp2_with (at_builtin; refine Lib.wpList_append_own_string _ rfl _ _ 36 9 rfl B U8 i0 Tryd.underlying36 Tryd.underlying9 hi hz0 hz1 hz2 _ _ _ rfl hown (bstr s) rfl ?c3 ?c4 ?c5 ?_)
  case c3 => rw [u8s_length, hsz]; unfold maxLen; omega
  case c4 => rw [u8s_length, hsz]; omega
  case c5 => have := hb1.size; omega
  intro v' w2 hown' hgrow _
  have hlt : b < w1.heap.size := lt_of_heap hbk
  have hb2 : w2.heap[b]? = some (.cells #[.pointer (some ⟨b, 0, none⟩), v] WT (0, 0)) := by
    rw [hgrow.block b hlt (fun e => hne e.symm)]
    exact hbk
  have d0 : w2.cell? ⟨b, 0, none⟩ = some (.pointer (some ⟨b, 0, none⟩)) := by rw [Lib.cell_of_heap hb2]; rfl
  have d1 : w2.cell? ⟨b, 1, none⟩ = some v := by rw [Lib.cell_of_heap hb2]; rfl
  have f1 : w2.frozen? ⟨b, 1, none⟩ = false := Lib.frozen_of_heap hb2 1
  have hK2 : Keeps w1 w2 := by
    intro k cs T fr hk ha hb'
    rw [hgrow.block k (lt_of_heap hk) ?_]
    · exact hk
    · intro e
      rcases hown.2 with ⟨rfl, _⟩ | ⟨g, cap, cur, rfl, _, hg, _⟩
      · simp [Value.ownBlock] at e
      · simp only [Value.ownBlock, Option.some.injEq] at e
        subst e
        rw [hg] at hk
        injection hk with hk
        injection hk with _ hk _
        exact hb' hk.symm
  have hK3 : ∀ x, Keeps w2 (w2.setCell ⟨b, 1, none⟩ x) := by
    intro x k cs T fr hk ha hb'
    have hkb : k ≠ b := by
      rintro rfl
      rw [hb2] at hk
      injection hk with hk
      injection hk with _ hk _
      exact ha hk.symm
    rw [show (w2.setCell ⟨b, 1, none⟩ x).heap[k]? = w2.heap[k]? from Below.heap_setCell _ _ _ _ (by exact hkb)]
    exact hk
  have HK := Lib.hid (And.intro hK2 hK3)
  clear hK2 hK3
  obtain ⟨ao, n', cap, rfl⟩ : ∃ ao n' cap, v' = .slice ao n' cap := by
    rcases hown'.2 with ⟨hv, _⟩ | ⟨g, cap, cur, hv, _⟩
    · exact ⟨_, _, _, hv⟩
    · exact ⟨_, _, _, hv⟩
  go_wp2_with fail
  go_returns
  refine ⟨⟨_, rfl⟩, .inr ?_, ?_, (HK1.out.trans HK.out.1).trans (HK.out.2 _)⟩
  · refine Lib.BuilderAt.put (T := WT) (e := U8) hB hb2 (bs' := u8s (acc ++ s)) ?_ wt_ne
    have e1 : u8s (acc ++ s) = u8s acc ++ Lib.strCells (bstr s) := by rw [u8s_strCells]; simp [u8s]
    rw [e1, List.length_append, Lib.strCells_length]
    rw [hsz]
    exact hown'
  · exact (hb1.grown hgrow (by have := hb1.size; omega) (fun k hk => (hown.lt k hk).1)).setCell (p := ⟨b, 1, none⟩) hB _

theorem flat_snoc (l : List Str) (k : Nat) (hk : k < l.length) : (l.take (k + 1)).flatten = (l.take k).flatten ++ l[k] := by
  rw [List.take_succ_eq_append_getElem hk, List.flatten_append]; simp
theorem flat_take_le (l : List Str) (k : Nat) : (l.take k).flatten.length ≤ l.flatten.length := by
  have : l.flatten = (l.take k).flatten ++ (l.drop k).flatten := by rw [← List.flatten_append, List.take_append_drop]
  rw [this, List.length_append]; omega
set_option maxHeartbeats 1000000 in
set_option maxRecDepth 100000 in
theorem say_any (B b g : Nat) (acc : Str) (l : List Str) (fr : Nat × Nat) (w : World) (h : Wd B b acc w) (hlen : acc.length + l.flatten.length ≤ 140737488355328) (hBw : B ≤ w.heap.size) (hl4 : l.length ≤ 100)
    (hg : w.heap[g]? = some (.cells (strs l).toArray 9 fr)) :
    Calls Tryd.prog 14 #[.pointer (some ⟨b, 0, none⟩), .slice (some ⟨g, 0, none⟩) l.length l.length] w fun e w' => e = .returned (.tuple #[]) ∧ Wd B b (acc ++ l.flatten) w' ∧ Below B w w' ∧ Keeps w w' := by
  have H := Lib.hid (And.intro hg (And.intro hlen (And.intro hBw h)))
  clear h hg hBw hlen
  go_enter Tryd.func14, Tryd.ntmps14
  go_wp2_with fail
  go_loopw [8] (fun i wr => ∃ k : Nat, i = .int .i64 k ∧ k ≤ l.length ∧ Wd B b (acc ++ (l.take k).flatten) wr ∧ Below B w wr ∧ Keeps w wr) (fun i _ => l.length - (intOf i).toNat)
  case atStart => exact ⟨0, rfl, Nat.zero_le _, by simpa using H.out.2.2.2, Below.refl _ _, Keeps.refl _⟩
  case round =>
    obtain ⟨k, rfl, hk, hwd, hbr, hkp⟩ := hrel
    have HR := Lib.hid (And.intro hwd (And.intro hbr hkp))
    clear hwd hbr hkp
    by_cases hlt : k < l.length
    · have hgr := HR.out.2.2 g _ _ _ H.out.1 (by decide) (by decide)
      have hc : wr.cell? ⟨g, 0 + k, none⟩ = some (.string (bstr l[k])) := by
        rw [Lib.cell_of_heap hgr, Nat.zero_add]
        simp [strs, hlt]
      rw [Nat.zero_add] at hc
      have HN := Lib.hid (flat_snoc l k hlt)
      have HLE := Lib.hid (flat_take_le l (k + 1))
      obtain ⟨x, hx⟩ : ∃ x, l[k] = x := ⟨_, rfl⟩
      rw [hx] at hc HN
      have HW := Lib.hid (write_any B b (acc ++ (l.take k).flatten) x wr HR.out.1 (by have h1 := HLE.out; have h2 := H.out.2.1; rw [HN.out, List.length_append] at h1; rw [List.length_append]; omega) (Nat.le_trans H.out.2.2.1 HR.out.2.1.size))
      have hki : (k : Int) < (l.length : Int) := by omega
      have hk0 : (0 : Int) ≤ (k : Int) := by omega
      clear hx hgr
      go_wp2_with fail
      refine HW.out.mono ?_
      rintro e w2 ⟨⟨v, rfl⟩, hw2, hb2, hk2⟩
      have H2 := Lib.hid (And.intro hw2 (And.intro (HR.out.2.1.trans hb2) (HR.out.2.2.trans hk2)))
      clear hw2 hb2 hk2 HW hc
      go_wp2_with fail
      go_roundw
      case rel => exact ⟨k + 1, by go_num, hlt, by rw [HN.out, ← List.append_assoc]; exact H2.out.1, H2.out.2.1, H2.out.2.2⟩
      case measure => simp [intOf] <;> omega
    · have hki : ¬ (k : Int) < (l.length : Int) := by omega
      go_wp2_with fail
      go_end0
      exact ⟨rfl, by have := HR.out.1; rwa [List.take_of_length_le (by omega)] at this, HR.out.2.1, HR.out.2.2⟩
/-- A call of 'say' at texts that are laid for it. -/
theorem say_new (B b : Nat) (acc : Str) (l : List Str) (w : World) (h : Wd B b acc w) (hlen : acc.length + l.flatten.length ≤ 140737488355328) (hBw : B ≤ w.heap.size) (hl4 : l.length ≤ 100) (n : Nat) (hn : l.length = n) (cs : Array Value) (hcs : (strs l).toArray = cs) :
    Calls Tryd.prog 14 #[.pointer (some ⟨b, 0, none⟩), .slice (some ⟨w.heap.size, 0, none⟩) n n] (w.alloc (.cells cs 9)) fun e w' => e = .returned (.tuple #[]) ∧ Wd B b (acc ++ l.flatten) w' ∧ Below B w w' ∧ Keeps w w' := by
  subst hn
  subst hcs
  have hb : Below w.heap.size w (w.alloc (.cells (strs l).toArray 9)) := (Below.refl _ _).alloc (Nat.le_refl _) _
  refine (say_any B b w.heap.size acc l (0, 0) _ (h.below hb) hlen (Nat.le_trans hBw hb.size) hl4 (Go.heap_alloc_new w _)).mono fun e w' hh => ⟨hh.1, hh.2.1, ?_, ?_⟩
  · exact ((Below.refl _ _).alloc hBw _).trans hh.2.2.1
  · exact (Keeps.of_below hb).trans hh.2.2.2
end Go.Proofs.YtaglmmcjhlehjaaDoor
