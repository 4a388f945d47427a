/-
  What the writer writes of an expression, by the code: lists of parts.
  What the writer writes of an expression, by the code: records, matches.
-/
import Derived.Test.YtaglmmcjhlehjaaGreatDoorK05
namespace Go.Proofs.YtaglmmcjhlehjaaGreatDoor
open Go.ChangeShapes Go.WideShapes Go.ChangeAt Go.RowKit Go.Sort
set_option linter.unusedVariables false
set_option linter.unusedSimpArgs false

theorem betweenTo_le (sep : List Str) (T : Nat → Str) : ∀ k, (betweenTo sep T k).length ≤ sumTo (fun i => sep.getD i []) (k - 1) + sumTo T k
  | 0 => by simp [betweenTo]
  | 1 => by simp [betweenTo, sumTo]
  | k + 2 => by
    have h := betweenTo_le sep T (k + 1)
    rw [show betweenTo sep T (k + 2) = betweenTo sep T (k + 1) ++ (if k + 1 = 0 then [] else sep.getD (k + 1 - 1) []) ++ T (k + 1) from rfl, if_neg (by omega)]
    rw [show sumTo T (k + 2) = sumTo T (k + 1) + (T (k + 1)).length from rfl, show k + 2 - 1 = k + 1 from rfl]
    rw [show sumTo (fun i => sep.getD i []) (k + 1) = sumTo (fun i => sep.getD i []) k + (sep.getD k []).length from rfl]
    simp only [Nat.add_sub_cancel] at h ⊢
    simp only [List.length_append]
    omega
theorem wtL_at : ∀ (l : List Ex) (k : Nat) (hk : k < l.length), (∀ x ∈ l, x.sh.length + 2 ≤ x.wt) → sumTo (shAt l) k + 2 * k + l[k].wt ≤ wtL l
  | [], k, hk, _ => by simp at hk
  | x :: r, 0, _, _ => by simp [sumTo, wtL]
  | x :: r, k + 1, hk, h => by
    have h1 := wtL_at r k (by simpa using hk) (fun y hy => h y (by simp [hy]))
    have h2 := h x (by simp)
    rw [sumTo_shift]
    have e : (fun i => shAt (x :: r) (i + 1)) = shAt r := by funext i; simp [shAt]
    rw [e]
    have e0 : shAt (x :: r) 0 = x.sh := rfl
    rw [e0]
    simp only [List.getElem_cons_succ, wtL]
    omega
theorem St.sayD {w0 wS w : World} {b : Nat} {acc : Str} (h : St w0 b acc wS w) (l : List Str) (hl : acc.length + l.flatten.length ≤ CAP) (h4 : l.length ≤ 100) (n : Nat) (hn : l.length = n) (cs : Array Value) (hcs : (strs l).toArray = cs) :
    Calls Tryz.prog 58 #[.pointer (some ⟨b, 0, none⟩), .slice (some ⟨w.heap.size, 0, none⟩) n n] (w.alloc (.cells cs 9)).drew fun e w' => e = .returned (.tuple #[]) ∧ St w0 b (acc ++ l.flatten) wS w' := by
  subst hn
  subst hcs
  have hb : Below w.heap.size w (w.alloc (.cells (strs l).toArray 9)).drew := below_drewN ((Below.refl _ _).alloc (Nat.le_refl _) _) 1
  have h2 := h.below hb
  exact (say_any w0.heap.size b w.heap.size acc l (0, 0) _ h2.1 hl h2.all.size h4 (Go.heap_alloc_new w _)).mono fun e w' hh => ⟨hh.1, hh.2.1, h2.2.1, h2.2.2.1.trans hh.2.2.1, h2.2.2.2.trans hh.2.2.2⟩
theorem getD_at {l : List Str} {k : Nat} (h : k < l.length) : l.getD k [] = l[k] := by simp [List.getD, h]

set_option maxRecDepth 100000 in
set_option maxHeartbeats 2000000 in
theorem between_any (w0 : World) (l : List Ex) (sep : List Str) (pb po : Nat) (hAt : ∀ j (h : j < l.length), (l[j]).d.At w0 pb (po + j * 8)) (HW : ∀ x ∈ l, WholeAt w0 x) (LL : ∀ x ∈ l, x.sh.length + 2 ≤ x.wt) (hsep : sep.length + 1 = l.length) (h4 : l.length ≤ 10)
    (b : Nat) (acc : Str) (n c m : Nat) (hn : l.length = n) (hm : sep.length = m) (g : Nat) (fr : Nat × Nat) (w : World) (hg : w.heap[g]? = some (.cells (strs sep).toArray 9 fr)) (hst : St w0 b acc w w) (hlen : acc.length + (sep.map List.length).sum + wtL l ≤ CAP) :
    Calls Tryz.prog 84 #[.pointer (some ⟨b, 0, none⟩), .slice (some ⟨pb, po, none⟩) n c, .slice (some ⟨g, 0, none⟩) m m] w fun e w' => e = .returned (.tuple #[]) ∧ St w0 b (acc ++ betweenTo sep (shAt l) l.length) w w' := by
  have H := Lib.hid (And.intro hg (And.intro hlen (And.intro hAt (And.intro HW (And.intro LL (And.intro hsep (And.intro h4 (And.intro hn hm))))))))
  have H0 := Lib.hid hst
  clear hg hst hlen hAt HW LL hsep h4
  go_enter Tryz.func84, Tryz.ntmps84
  go_wp2_with fail
  go_loopw [9] (fun i wr => ∃ k : Nat, i = .int .i64 k ∧ k ≤ n ∧ St w0 b (acc ++ betweenTo sep (shAt l) k) w wr) (fun i _ => n - (intOf i).toNat)
  case atStart => exact ⟨0, rfl, Nat.zero_le _, by simpa [betweenTo] using H0.out⟩
  case round =>
    obtain ⟨k, rfl, hk, hst⟩ := hrel
    have HR := Lib.hid hst
    clear hst
    by_cases hlt : k < n
    · have hkl : k < l.length := by rw [hn]; exact hlt
      have HAx := Lib.hid (H.out.2.2.1 k hkl)
      have HWx := Lib.hid (H.out.2.2.2.1 l[k] (List.getElem_mem hkl))
      have HLx := Lib.hid (H.out.2.2.2.2.1 l[k] (List.getElem_mem hkl))
      have HWT := Lib.hid (wtL_at l k hkl H.out.2.2.2.2.1)
      have HBL := Lib.hid (betweenTo_le sep (shAt l) k)
      have HTk := Lib.hid (shAt_get hkl)
      have hki : (k : Int) < (n : Int) := by omega
      have hk0 : (0 : Int) ≤ (k : Int) := by omega
      have hk9 : (k : Int) ≤ 100 := by have := H.out.2.2.2.2.2.2.1; omega
      obtain ⟨x, hx⟩ : ∃ x, l[k] = x := ⟨_, rfl⟩
      rw [hx] at HAx HWx HLx HWT HTk
      clear hx
      by_cases hk1 : k = 0
      · subst hk1
        have HN := Lib.hid (show acc ++ betweenTo sep (shAt l) (0 + 1) = acc ++ betweenTo sep (shAt l) 0 ++ x.sh by rw [← HTk.out]; simp [betweenTo])
        have HAx := Lib.hid (show x.d.At w0 pb po by have := HAx.out; simpa using this)
        go_wp2_with fail
        refine (HWx.out.step HR.out HAx.out ?_).mono ?_
        · have h1 := H.out.2.1; have h2 := HWT.out; simp only [betweenTo, List.append_nil] at *; omega
        rintro e w2 ⟨rfl, hs2⟩
        have H2 := Lib.hid hs2
        clear hs2
        go_wp2_with fail
        go_roundw
        case rel => exact ⟨0 + 1, by go_num, hlt, by rw [HN.out]; exact H2.out⟩
        case measure => simp [intOf] <;> omega
      · obtain ⟨m1, rfl⟩ : ∃ m1, k = m1 + 1 := ⟨k - 1, by omega⟩
        have hml : m1 < sep.length := by have := H.out.2.2.2.2.2.1; omega
        have hgr := HR.out.2.2.2 g _ _ _ H.out.1 (by decide) (by decide)
        have hc : wr.cell? ⟨g, m1, none⟩ = some (.string (bstr sep[m1])) := by
          rw [Lib.cell_of_heap hgr]
          simp [strs, hml]
        have HN := Lib.hid (show acc ++ betweenTo sep (shAt l) (m1 + 1 + 1) = acc ++ betweenTo sep (shAt l) (m1 + 1) ++ [sep[m1]].flatten ++ x.sh by
          rw [show betweenTo sep (shAt l) (m1 + 1 + 1) = betweenTo sep (shAt l) (m1 + 1) ++ (if m1 + 1 = 0 then [] else sep.getD (m1 + 1 - 1) []) ++ shAt l (m1 + 1) from rfl, if_neg (by omega), HTk.out, Nat.add_sub_cancel, getD_at hml]
          simp)
        have HSL := Lib.hid (show sumTo (fun i => sep.getD i []) m1 + (sep[m1]).length ≤ (sep.map List.length).sum by
          have h := sumTo_list sep (m1 + 1)
          rw [show sumTo (fun i => sep.getD i []) (m1 + 1) = sumTo (fun i => sep.getD i []) m1 + (sep.getD m1 []).length from rfl, getD_at hml] at h
          exact h)
        obtain ⟨y, hy⟩ : ∃ y, sep[m1] = y := ⟨_, rfl⟩
        rw [hy] at hc HN HSL
        have hk1' : (0 : Int) < ((m1 + 1 : Nat) : Int) := by omega
        have i1 : (m1 : Int) < (m : Int) := by omega
        have i2 : (0 : Int) ≤ (m1 : Int) := by omega
        have hwr : IntKind.i64.wrap (m1 : Int) = (m1 : Int) := by rw [IntKind.wrap_i64]; omega
        clear hy hgr hk1
        go_wp2_with fail
        refine (HR.out.say [y] ?_ (by simp) 1 rfl _ rfl).mono ?_
        · have h1 := H.out.2.1; have h2 := HWT.out; have h3 := HBL.out; have h4 := HSL.out; simp only [Nat.add_sub_cancel] at h3; simp only [List.flatten_cons, List.flatten_nil, List.append_nil, List.length_append]; omega
        rintro e w2 ⟨rfl, hs2⟩
        have H2 := Lib.hid hs2
        clear hs2 hc
        go_wp2_with fail
        refine (HWx.out.step H2.out HAx.out ?_).mono ?_
        · have h1 := H.out.2.1; have h2 := HWT.out; have h3 := HBL.out; have h4 := HSL.out; simp only [Nat.add_sub_cancel] at h3; simp only [List.flatten_cons, List.flatten_nil, List.append_nil, List.length_append]; omega
        rintro e w3 ⟨rfl, hs3⟩
        have H3 := Lib.hid hs3
        clear hs3
        go_wp2_with fail
        go_roundw
        case rel => exact ⟨m1 + 1 + 1, by go_num, hlt, by rw [HN.out]; exact H3.out⟩
        case measure => simp [intOf] <;> omega
    · have hki : ¬ (k : Int) < (n : Int) := by omega
      have HE := Lib.hid (show k = n by omega)
      go_wp2_with fail
      go_end0
      exact ⟨rfl, by rw [← HE.out]; exact HR.out⟩
/-- A call of 'between' at texts that are laid for it. -/
theorem St.between {w0 wS w : World} {b : Nat} {acc : Str} (h : St w0 b acc wS w) (l : List Ex) (sep : List Str) (pb po : Nat) (hAt : ∀ j (h : j < l.length), (l[j]).d.At w0 pb (po + j * 8)) (HW : ∀ x ∈ l, WholeAt w0 x) (LL : ∀ x ∈ l, x.sh.length + 2 ≤ x.wt) (hsep : sep.length + 1 = l.length) (h4 : l.length ≤ 10)
    (n c m : Nat) (hn : l.length = n) (hm : sep.length = m) (cs : Array Value) (hcs : (strs sep).toArray = cs) (hlen : acc.length + (sep.map List.length).sum + wtL l ≤ CAP) :
    Calls Tryz.prog 84 #[.pointer (some ⟨b, 0, none⟩), .slice (some ⟨pb, po, none⟩) n c, .slice (some ⟨w.heap.size, 0, none⟩) m m] (w.alloc (.cells cs 9)) fun e w' => e = .returned (.tuple #[]) ∧ St w0 b (acc ++ betweenTo sep (shAt l) l.length) wS w' := by
  subst hcs
  have hb : Below w.heap.size w (w.alloc (.cells (strs sep).toArray 9)) := (Below.refl _ _).alloc (Nat.le_refl _) _
  have h2 := h.below hb
  exact (between_any w0 l sep pb po hAt HW LL hsep h4 b acc n c m hn hm w.heap.size (0, 0) _ (Go.heap_alloc_new w _) h2.here hlen).mono fun e w' hh => ⟨hh.1, h2.on hh.2⟩

set_option maxRecDepth 100000 in
set_option maxHeartbeats 2000000 in
theorem block_6 (w0 : World) (d : ExD) (a c : Ex) (hI : (Ex.mk d [a, c]).In w0) (hk : d.kind = 6) (hpn : d.pn = 2) (La : a.sh.length + 2 ≤ a.wt) (Wa : WholeAt w0 a) (Lc : c.sh.length + 2 ≤ c.wt) (Wc : WholeAt w0 c) :
    FunAt 61 w0 d (Ex.mk d [a, c]).wt ([108, 101, 116, 32] ++ d.s ++ [32, 61, 32] ++ betweenTo [inS] (shAt [a, c]) 2) := by
  intro b b' o' acc w hAt hst hlen
  have H0 := Lib.hid hst
  have HE := Lib.hid (fun W (h : Below w0.heap.size w0 W) => hAt.lower h)
  have HLEN := Lib.hid (And.intro (show acc.length + (40 + 2 * d.s.length + d.t.length + a.wt + c.wt) ≤ CAP by have h1 := own_ge d; have h2 := hlen; unfold Ex.wt at h2; simp only [wtL] at h2; omega) (show a.sh.length + 2 ≤ a.wt ∧ a.pa.length ≤ a.sh.length + 2 ∧ c.sh.length + 2 ≤ c.wt ∧ c.pa.length ≤ c.sh.length + 2 from ⟨La, pa_le a, Lc, pa_le c⟩))
  obtain ⟨pb, po, hpA, hAll⟩ := hI.part (k := 0) (by simp [Ex.l])
  have hpA : d.pA = some ⟨pb, po, none⟩ := hpA
  have HPA := Lib.hid (And.intro hpA hpn)
  have HAll := Lib.hid (show ∀ j (h : j < [a, c].length), ([a, c][j]).d.At w0 pb (po + j * 8) from hAll)
  have HWW := Lib.hid (show ∀ x ∈ [a, c], WholeAt w0 x from fun x hx => by simp only [List.mem_cons, List.not_mem_nil, or_false] at hx; rcases hx with rfl | rfl <;> assumption)
  have HLL := Lib.hid (show ∀ x ∈ [a, c], x.sh.length + 2 ≤ x.wt from fun x hx => by simp only [List.mem_cons, List.not_mem_nil, or_false] at hx; rcases hx with rfl | rfl <;> assumption)
  have q4 : (d.kind == 4) = false := by rw [hk]; rfl
  have q6 : (d.kind == 6) = true := by rw [hk]; rfl
  clear hAt hst hlen hI hpA hAll hk hpn La Wa Lc Wc
  obtain ⟨c0, c1, c2, c3, c4, c5, c6, c7⟩ := HE.out _ H0.out.all
  rw [HPA.out.1, HPA.out.2] at c7
  go_enter Tryz.func61, Tryz.ntmps61
  go_wp2_with fail
  refine (H0.out.say [[108, 101, 116, 32], d.s, [32, 61, 32]] (by have h := HLEN.out; simp only [List.flatten_cons, List.flatten_nil, List.append_nil, List.length_append, List.length_cons, List.length_nil]; omega) (by simp) 3 rfl _ rfl).mono ?_
  rintro e v1 ⟨rfl, hs1⟩
  have H1 := Lib.hid hs1
  clear hs1 c0 c1 c2 c3 c4 c5 c6 c7
  obtain ⟨c0, c1, c2, c3, c4, c5, c6, c7⟩ := HE.out _ H1.out.all
  rw [HPA.out.1, HPA.out.2] at c7
  go_wp2_with fail
  refine (H1.out.between [a, c] [inS] pb po HAll.out HWW.out HLL.out (by simp) (by simp) 2 _ 1 rfl rfl _ rfl (by have h := HLEN.out; simp only [wtL, inS, List.map_cons, List.map_nil, List.sum_cons, List.sum_nil, List.flatten_cons, List.flatten_nil, List.append_nil, List.length_append, List.length_cons, List.length_nil]; omega)).mono ?_
  rintro e v8 ⟨rfl, hs8⟩
  have H8 := Lib.hid hs8
  clear hs8 c0 c1 c2 c3 c4 c5 c6 c7
  go_wp2_with fail
  go_end0
  exact ⟨rfl, by have h := H8.out; simpa [List.append_assoc] using h⟩

set_option maxRecDepth 100000 in
set_option maxHeartbeats 2000000 in
theorem block_7 (w0 : World) (d : ExD) (a c : Ex) (hI : (Ex.mk d [a, c]).In w0) (hk : d.kind = 7) (hpn : d.pn = 2) (La : a.sh.length + 2 ≤ a.wt) (Wa : WholeAt w0 a) (Lc : c.sh.length + 2 ≤ c.wt) (Wc : WholeAt w0 c) :
    FunAt 61 w0 d (Ex.mk d [a, c]).wt ([108, 101, 116, 32, 114, 101, 99, 32] ++ d.s ++ [32] ++ d.t ++ [32, 61, 32] ++ betweenTo [inS] (shAt [a, c]) 2) := by
  intro b b' o' acc w hAt hst hlen
  have H0 := Lib.hid hst
  have HE := Lib.hid (fun W (h : Below w0.heap.size w0 W) => hAt.lower h)
  have HLEN := Lib.hid (And.intro (show acc.length + (40 + 2 * d.s.length + d.t.length + a.wt + c.wt) ≤ CAP by have h1 := own_ge d; have h2 := hlen; unfold Ex.wt at h2; simp only [wtL] at h2; omega) (show a.sh.length + 2 ≤ a.wt ∧ a.pa.length ≤ a.sh.length + 2 ∧ c.sh.length + 2 ≤ c.wt ∧ c.pa.length ≤ c.sh.length + 2 from ⟨La, pa_le a, Lc, pa_le c⟩))
  obtain ⟨pb, po, hpA, hAll⟩ := hI.part (k := 0) (by simp [Ex.l])
  have hpA : d.pA = some ⟨pb, po, none⟩ := hpA
  have HPA := Lib.hid (And.intro hpA hpn)
  have HAll := Lib.hid (show ∀ j (h : j < [a, c].length), ([a, c][j]).d.At w0 pb (po + j * 8) from hAll)
  have HWW := Lib.hid (show ∀ x ∈ [a, c], WholeAt w0 x from fun x hx => by simp only [List.mem_cons, List.not_mem_nil, or_false] at hx; rcases hx with rfl | rfl <;> assumption)
  have HLL := Lib.hid (show ∀ x ∈ [a, c], x.sh.length + 2 ≤ x.wt from fun x hx => by simp only [List.mem_cons, List.not_mem_nil, or_false] at hx; rcases hx with rfl | rfl <;> assumption)
  have q4 : (d.kind == 4) = false := by rw [hk]; rfl
  have q6 : (d.kind == 6) = false := by rw [hk]; rfl
  have q7 : (d.kind == 7) = true := by rw [hk]; rfl
  clear hAt hst hlen hI hpA hAll hk hpn La Wa Lc Wc
  obtain ⟨c0, c1, c2, c3, c4, c5, c6, c7⟩ := HE.out _ H0.out.all
  rw [HPA.out.1, HPA.out.2] at c7
  go_enter Tryz.func61, Tryz.ntmps61
  go_upto_region 8 with fail
  go_cut [] from 42 to 52 (fun wx => St w0 b (acc ++ [[108, 101, 116, 32, 114, 101, 99, 32], d.s, [32], d.t, [32, 61, 32]].flatten) w wx)
  case first =>
    skip
    have HF := Lib.hid (show w.drew.cell? ⟨b', o' + 3, none⟩ = some (.string (bstr d.s)) ∧ w.drew.cell? ⟨b', o' + 4, none⟩ = some (.string (bstr d.t)) from ⟨c3, c4⟩)
    have HC := Lib.hid (H0.out.sayD [[108, 101, 116, 32, 114, 101, 99, 32], d.s, [32], d.t, [32, 61, 32]] (by have h := HLEN.out; simp only [List.flatten_cons, List.flatten_nil, List.append_nil, List.length_append, List.length_cons, List.length_nil]; omega) (by simp) 5 rfl #[.string ⟨#[108, 101, 116, 32, 114, 101, 99, 32]⟩, .string (bstr d.s), .string ⟨#[32]⟩, .string (bstr d.t), .string ⟨#[32, 61, 32]⟩] rfl)
    go_region_with ((go_at_call 58; (with_reducible refine HC.out.mono ?_); rintro e v9 ⟨rfl, hs9⟩))
    all_goals
      go_wp2_with fail
      go_meet
      exact hs9
  case rest =>
  have H1 := Lib.hid hcut
  clear hcut c0 c1 c2 c3 c4 c5 c6 c7
  obtain ⟨c0, c1, c2, c3, c4, c5, c6, c7⟩ := HE.out _ H1.out.all
  rw [HPA.out.1, HPA.out.2] at c7
  go_wp2_with fail
  refine (H1.out.between [a, c] [inS] pb po HAll.out HWW.out HLL.out (by simp) (by simp) 2 _ 1 rfl rfl _ rfl (by have h := HLEN.out; simp only [wtL, inS, List.map_cons, List.map_nil, List.sum_cons, List.sum_nil, List.flatten_cons, List.flatten_nil, List.append_nil, List.length_append, List.length_cons, List.length_nil]; omega)).mono ?_
  rintro e v8 ⟨rfl, hs8⟩
  have H8 := Lib.hid hs8
  clear hs8 c0 c1 c2 c3 c4 c5 c6 c7
  go_wp2_with fail
  go_end0
  exact ⟨rfl, by have h := H8.out; simpa [List.append_assoc] using h⟩

set_option maxRecDepth 100000 in
set_option maxHeartbeats 2000000 in
theorem block_15 (w0 : World) (d : ExD) (a c f : Ex) (hI : (Ex.mk d [a, c, f]).In w0) (hk : d.kind = 15) (hpn : d.pn = 3) (La : a.sh.length + 2 ≤ a.wt) (Wa : WholeAt w0 a) (Lc : c.sh.length + 2 ≤ c.wt) (Wc : WholeAt w0 c) (Lf : f.sh.length + 2 ≤ f.wt) (Wf : WholeAt w0 f) :
    FunAt 61 w0 d (Ex.mk d [a, c, f]).wt ([105, 102, 32] ++ betweenTo [[32, 116, 104, 101, 110, 32], [32, 101, 108, 115, 101, 32]] (shAt [a, c, f]) 3) := by
  intro b b' o' acc w hAt hst hlen
  have H0 := Lib.hid hst
  have HE := Lib.hid (fun W (h : Below w0.heap.size w0 W) => hAt.lower h)
  have HLEN := Lib.hid (And.intro (show acc.length + (40 + 2 * d.s.length + d.t.length + a.wt + c.wt + f.wt) ≤ CAP by have h1 := own_ge d; have h2 := hlen; unfold Ex.wt at h2; simp only [wtL] at h2; omega) (show a.sh.length + 2 ≤ a.wt ∧ a.pa.length ≤ a.sh.length + 2 ∧ c.sh.length + 2 ≤ c.wt ∧ c.pa.length ≤ c.sh.length + 2 ∧ f.sh.length + 2 ≤ f.wt ∧ f.pa.length ≤ f.sh.length + 2 from ⟨La, pa_le a, Lc, pa_le c, Lf, pa_le f⟩))
  obtain ⟨pb, po, hpA, hAll⟩ := hI.part (k := 0) (by simp [Ex.l])
  have hpA : d.pA = some ⟨pb, po, none⟩ := hpA
  have HPA := Lib.hid (And.intro hpA hpn)
  have HAll := Lib.hid (show ∀ j (h : j < [a, c, f].length), ([a, c, f][j]).d.At w0 pb (po + j * 8) from hAll)
  have HWW := Lib.hid (show ∀ x ∈ [a, c, f], WholeAt w0 x from fun x hx => by simp only [List.mem_cons, List.not_mem_nil, or_false] at hx; rcases hx with rfl | rfl | rfl <;> assumption)
  have HLL := Lib.hid (show ∀ x ∈ [a, c, f], x.sh.length + 2 ≤ x.wt from fun x hx => by simp only [List.mem_cons, List.not_mem_nil, or_false] at hx; rcases hx with rfl | rfl | rfl <;> assumption)
  have q4 : (d.kind == 4) = false := by rw [hk]; rfl
  have q6 : (d.kind == 6) = false := by rw [hk]; rfl
  have q7 : (d.kind == 7) = false := by rw [hk]; rfl
  have q15 : (d.kind == 15) = true := by rw [hk]; rfl
  clear hAt hst hlen hI hpA hAll hk hpn La Wa Lc Wc Lf Wf
  obtain ⟨c0, c1, c2, c3, c4, c5, c6, c7⟩ := HE.out _ H0.out.all
  rw [HPA.out.1, HPA.out.2] at c7
  go_enter Tryz.func61, Tryz.ntmps61
  go_wp2_with fail
  refine (H0.out.say [[105, 102, 32]] (by have h := HLEN.out; simp only [List.flatten_cons, List.flatten_nil, List.append_nil, List.length_append, List.length_cons, List.length_nil]; omega) (by simp) 1 rfl _ rfl).mono ?_
  rintro e v1 ⟨rfl, hs1⟩
  have H1 := Lib.hid hs1
  clear hs1 c0 c1 c2 c3 c4 c5 c6 c7
  obtain ⟨c0, c1, c2, c3, c4, c5, c6, c7⟩ := HE.out _ H1.out.all
  rw [HPA.out.1, HPA.out.2] at c7
  go_wp2_with fail
  refine (H1.out.between [a, c, f] [[32, 116, 104, 101, 110, 32], [32, 101, 108, 115, 101, 32]] pb po HAll.out HWW.out HLL.out (by simp) (by simp) 3 _ 2 rfl rfl _ rfl (by have h := HLEN.out; simp only [wtL, inS, List.map_cons, List.map_nil, List.sum_cons, List.sum_nil, List.flatten_cons, List.flatten_nil, List.append_nil, List.length_append, List.length_cons, List.length_nil]; omega)).mono ?_
  rintro e v8 ⟨rfl, hs8⟩
  have H8 := Lib.hid hs8
  clear hs8 c0 c1 c2 c3 c4 c5 c6 c7
  go_wp2_with fail
  go_end0
  exact ⟨rfl, by have h := H8.out; simpa [List.append_assoc] using h⟩
end Go.Proofs.YtaglmmcjhlehjaaGreatDoor

namespace Go.Proofs.YtaglmmcjhlehjaaGreatDoor
open Go.ChangeShapes Go.WideShapes Go.ChangeAt Go.RowKit Go.Sort
set_option linter.unusedVariables false
set_option linter.unusedSimpArgs false


set_option maxRecDepth 100000 in
set_option maxHeartbeats 4000000 in
theorem braces_8 (w0 : World) (d : ExD) (l : List Ex) (hI : (Ex.mk d l).In w0) (hk : d.kind = 8) (hpn : d.pn = d.ln) (h30 : d.ln ≤ 30) (WW : ∀ x ∈ l, WholeAt w0 x) (LL : ∀ x ∈ l, x.sh.length + 2 ≤ x.wt) :
    FunAt 60 w0 d (Ex.mk d l).wt ([123] ++ fieldsTo d.labels (shAt l) d.ln ++ [125]) := by
  intro b b' o' acc w hAt hst hlen
  have H0 := Lib.hid hst
  have HE := Lib.hid (fun W (h : Below w0.heap.size w0 W) => hAt.lower h)
  have HLEN := Lib.hid (show acc.length + (40 + 8 * d.ln + (d.labels.map List.length).sum + wtL l) ≤ CAP by
    have h1 := own_ge d; have h2 := hlen; have h3 : d.labels.length = d.ln := hI.labLen; unfold Ex.wt at h2; omega)
  have HI := Lib.hid hI
  have HLL := Lib.hid LL
  have HWW := Lib.hid WW
  have hlab : Rd w0 1 d.lA d.ln (strs d.labels) := hI.lab
  have HLB := Lib.hid (show d.labels.length = d.ln from hI.labLen)
  have HLP := Lib.hid (show l.length = d.ln by rw [← hpn]; exact hI.len)
  have HPN := Lib.hid hpn
  have q8 : (d.kind == 8) = true := by rw [hk]; rfl
  obtain ⟨LA, hLA⟩ : ∃ LA, d.lA = LA := ⟨_, rfl⟩
  rw [hLA] at hlab
  have HLA := Lib.hid hLA
  have HLAB := Lib.hid hlab
  clear hAt hst hlen hI hk hpn WW LL hLA hlab
  obtain ⟨c0, c1, c2, c3, c4, c5, c6, c7⟩ := HE.out _ H0.out.all
  go_enter Tryz.func60, Tryz.ntmps60
  go_wp2_with fail
  refine (H0.out.say [[123]] (by have h := HLEN.out; simp only [List.flatten_cons, List.flatten_nil, List.append_nil, List.length_append, List.length_cons, List.length_nil]; omega) (by simp) 1 rfl _ rfl).mono ?_
  rintro e v1 ⟨rfl, hs1⟩
  have H1 := Lib.hid hs1
  clear hs1 c0 c1 c2 c3 c4 c5 c6 c7
  obtain ⟨c0, c1, c2, c3, c4, c5, c6, c7⟩ := HE.out _ H1.out.all
  rw [HLA.out] at c5
  go_wp2_with fail
  clear c0 c1 c2 c3 c4 c5 c6 c7
  go_loopw [20] (fun i wr => ∃ k : Nat, i = .int .i64 k ∧ k ≤ d.ln ∧ St w0 b (acc ++ [123] ++ fieldsTo d.labels (shAt l) k) w wr) (fun i _ => d.ln - (intOf i).toNat)
  case atStart => exact ⟨0, rfl, Nat.zero_le _, by have h := H1.out; simpa [fieldsTo] using h⟩
  case round =>
    obtain ⟨k, rfl, hk, hst⟩ := hrel
    have HR := Lib.hid hst
    clear hst
    by_cases hlt : k < d.ln
    · have hkl : k < l.length := by rw [HLP.out]; exact hlt
      have hkb : k < d.labels.length := by rw [HLB.out]; exact hlt
      obtain ⟨b1, o1, rfl, hcs⟩ := (HLAB.out.below HR.out.all).str hkb
      have hc := hcs k hkb
      obtain ⟨pb, po, hpA, hAtP⟩ := HI.out.part (k := k) hkl
      have HPA := Lib.hid (show d.pA = some ⟨pb, po, none⟩ from hpA)
      have HAx := Lib.hid (show (l[k]).d.At w0 pb (po + k * 8) from hAtP k hkl)
      have HWx := Lib.hid (HWW.out l[k] (List.getElem_mem hkl))
      have HWT := Lib.hid (wtL_at l k hkl HLL.out)
      have HFL := Lib.hid (fieldsTo_le d.labels (shAt l) k)
      have HLS := Lib.hid (show sumTo (fun i => d.labels.getD i []) k + (d.labels[k]).length ≤ (d.labels.map List.length).sum by
        have h := sumTo_list d.labels (k + 1)
        rw [show sumTo (fun i => d.labels.getD i []) (k + 1) = sumTo (fun i => d.labels.getD i []) k + (d.labels.getD k []).length from rfl, getD_at hkb] at h
        exact h)
      have HN := Lib.hid (show fieldsTo d.labels (shAt l) (k + 1) = fieldsTo d.labels (shAt l) k ++ (if k = 0 then [] else [44, 32]) ++ d.labels[k] ++ [32, 61, 32] ++ l[k].sh by
        rw [show fieldsTo d.labels (shAt l) (k + 1) = fieldsTo d.labels (shAt l) k ++ (if k = 0 then [] else [44, 32]) ++ d.labels.getD k [] ++ [32, 61, 32] ++ shAt l k from rfl, getD_at hkb, shAt_get hkl])
      obtain ⟨x, hx⟩ : ∃ x, l[k] = x := ⟨_, rfl⟩
      rw [hx] at HAx HWx HWT HN
      obtain ⟨y, hy⟩ : ∃ y, d.labels[k] = y := ⟨_, rfl⟩
      rw [hy] at HLS HN hc
      have hki : (k : Int) < (d.ln : Int) := by omega
      have hkp : (k : Int) < (d.pn : Int) := by rw [HPN.out]; omega
      have hk0 : (0 : Int) ≤ (k : Int) := by omega
      have hk9 : (k : Int) ≤ 100 := by omega
      clear hx hy hcs hpA hAtP
      by_cases hk1 : k = 0
      · have qk : ¬ (0 : Int) < (k : Int) := by omega
        have HN := Lib.hid (HN.out.trans (show _ = fieldsTo d.labels (shAt l) k ++ y ++ [32, 61, 32] ++ x.sh by rw [if_pos hk1, List.append_nil]))
        clear hk1
        obtain ⟨c0, c1, c2, c3, c4, c5, c6, c7⟩ := HE.out _ HR.out.all
        rw [HPA.out] at c7
        go_wp2_with fail
        refine (HR.out.say [y, [32, 61, 32]] (by have h := HLEN.out; have h1 := HFL.out; have h2 := HLS.out; have h3 := HWT.out; simp only [List.flatten_cons, List.flatten_nil, List.append_nil, List.length_append, List.length_cons, List.length_nil]; omega) (by simp) 2 rfl _ rfl).mono ?_
        rintro e v4 ⟨rfl, hs4⟩
        have H4 := Lib.hid hs4
        clear hs4 c0 c1 c2 c3 c4 c5 c6 c7
        obtain ⟨c0, c1, c2, c3, c4, c5, c6, c7⟩ := HE.out _ H4.out.all
        rw [HPA.out] at c7
        go_wp2_with fail
        refine (HWx.out.step H4.out HAx.out (by have h := HLEN.out; have h1 := HFL.out; have h2 := HLS.out; have h3 := HWT.out; simp only [List.flatten_cons, List.flatten_nil, List.append_nil, List.length_append, List.length_cons, List.length_nil]; omega)).mono ?_
        rintro e v5 ⟨rfl, hs5⟩
        have H5 := Lib.hid hs5
        clear hs5 c0 c1 c2 c3 c4 c5 c6 c7
        go_wp2_with fail
        go_roundw
        case rel => exact ⟨k + 1, by go_num, hlt, by have h := H5.out; rw [HN.out]; simpa [List.append_assoc] using h⟩
        case measure => simp [intOf] <;> omega
      · have qk : (0 : Int) < (k : Int) := by omega
        have HN := Lib.hid (HN.out.trans (show _ = fieldsTo d.labels (shAt l) k ++ [44, 32] ++ y ++ [32, 61, 32] ++ x.sh by rw [if_neg hk1]))
        clear hk1
        obtain ⟨c0, c1, c2, c3, c4, c5, c6, c7⟩ := HE.out _ HR.out.all
        rw [HPA.out] at c7
        go_wp2_with fail
        refine (HR.out.say [[44, 32]] (by have h := HLEN.out; have h1 := HFL.out; have h2 := HLS.out; have h3 := HWT.out; simp only [List.flatten_cons, List.flatten_nil, List.append_nil, List.length_append, List.length_cons, List.length_nil]; omega) (by simp) 1 rfl _ rfl).mono ?_
        rintro e v3 ⟨rfl, hs3⟩
        have H3 := Lib.hid hs3
        clear hs3 c0 c1 c2 c3 c4 c5 c6 c7 hc
        obtain ⟨c0, c1, c2, c3, c4, c5, c6, c7⟩ := HE.out _ H3.out.all
        rw [HPA.out] at c7
        go_wp2_with fail
        refine (H3.out.say [y, [32, 61, 32]] (by have h := HLEN.out; have h1 := HFL.out; have h2 := HLS.out; have h3 := HWT.out; simp only [List.flatten_cons, List.flatten_nil, List.append_nil, List.length_append, List.length_cons, List.length_nil]; omega) (by simp) 2 rfl _ rfl).mono ?_
        rintro e v4 ⟨rfl, hs4⟩
        have H4 := Lib.hid hs4
        clear hs4 c0 c1 c2 c3 c4 c5 c6 c7
        obtain ⟨c0, c1, c2, c3, c4, c5, c6, c7⟩ := HE.out _ H4.out.all
        rw [HPA.out] at c7
        go_wp2_with fail
        refine (HWx.out.step H4.out HAx.out (by have h := HLEN.out; have h1 := HFL.out; have h2 := HLS.out; have h3 := HWT.out; simp only [List.flatten_cons, List.flatten_nil, List.append_nil, List.length_append, List.length_cons, List.length_nil]; omega)).mono ?_
        rintro e v5 ⟨rfl, hs5⟩
        have H5 := Lib.hid hs5
        clear hs5 c0 c1 c2 c3 c4 c5 c6 c7
        go_wp2_with fail
        go_roundw
        case rel => exact ⟨k + 1, by go_num, hlt, by have h := H5.out; rw [HN.out]; simpa [List.append_assoc] using h⟩
        case measure => simp [intOf] <;> omega
    · have hki : ¬ (k : Int) < (d.ln : Int) := by omega
      have HK := Lib.hid (show k = d.ln by omega)
      have HFL := Lib.hid (fieldsTo_le d.labels (shAt l) k)
      have HLS := Lib.hid (sumTo_list d.labels k)
      have HWT := Lib.hid (sumTo_sh l HLL.out k)
      go_wp2_with fail
      refine (HR.out.say [[125]] (by have h := HLEN.out; have h1 := HFL.out; have h2 := HLS.out; have h3 := HWT.out; simp only [List.flatten_cons, List.flatten_nil, List.append_nil, List.length_append, List.length_cons, List.length_nil]; omega) (by simp) 1 rfl _ rfl).mono ?_
      rintro e v6 ⟨rfl, hs6⟩
      have H6 := Lib.hid hs6
      clear hs6
      go_wp2_with fail
      go_end0
      exact ⟨rfl, by have h := H6.out; rw [← HK.out]; simpa [List.append_assoc] using h⟩

set_option maxRecDepth 100000 in
set_option maxHeartbeats 8000000 in
theorem match_any (w0 : World) (d : ExD) (l : List Ex) (hI : (Ex.mk d l).In w0) (hpn : d.pn = d.ln + 1 + (if d.t = [] then 0 else 1)) (hnn : d.nn = d.ln) (h30 : d.ln ≤ 30) (WW : ∀ x ∈ l, WholeAt w0 x) (LL : ∀ x ∈ l, x.sh.length + 2 ≤ x.wt) :
    FunAt 85 w0 d (Ex.mk d l).wt (d.matchF (shAt l)) := by
  intro b b' o' acc w hAt hst hlen
  have H0 := Lib.hid hst
  have HE := Lib.hid (fun W (h : Below w0.heap.size w0 W) => hAt.lower h)
  have HLEN := Lib.hid (show acc.length + (40 + 8 * d.ln + 8 * d.ln + d.t.length + (d.labels.map List.length).sum + (d.names.map List.length).sum + wtL l) ≤ CAP by
    have h1 := own_ge d; have h2 := hlen; have h3 : d.labels.length = d.ln := hI.labLen; have h4 : d.names.length = d.nn := hI.namLen; unfold Ex.wt at h2; omega)
  have HI := Lib.hid hI
  have HLL := Lib.hid LL
  have HWW := Lib.hid WW
  have hlab : Rd w0 1 d.lA d.ln (strs d.labels) := hI.lab
  have HNAM := Lib.hid (show Rd w0 1 d.nA d.nn (strs d.names) from hI.nam)
  have HLB := Lib.hid (show d.labels.length = d.ln from hI.labLen)
  have HNB := Lib.hid (show d.names.length = d.nn from hI.namLen)
  have HLP := Lib.hid (show l.length = d.pn from hI.len)
  have HPN := Lib.hid (And.intro hpn (And.intro hnn h30))
  obtain ⟨LA, hLA⟩ : ∃ LA, d.lA = LA := ⟨_, rfl⟩
  rw [hLA] at hlab
  have HLA := Lib.hid hLA
  have HLAB := Lib.hid hlab
  have hp0 : 0 < l.length := by rw [HLP.out, hpn]; omega
  obtain ⟨pb, po, hpA, hAtP⟩ := hI.part (k := 0) hp0
  have HPA := Lib.hid (show d.pA = some ⟨pb, po, none⟩ from hpA)
  have HATP := Lib.hid (show ∀ j (hj : j < l.length), (l[j]).d.At w0 pb (po + j * 8) from hAtP)
  have HA0 := Lib.hid (show (l[0]).d.At w0 pb po by have h := HATP.out 0 hp0; simpa using h)
  have HW0 := Lib.hid (WW l[0] (List.getElem_mem hp0))
  have HWT0 := Lib.hid (wtL_at l 0 hp0 LL)
  have HS0 := Lib.hid (shAt_get hp0)
  have hpn0 : (0 : Int) < (d.pn : Int) := by rw [hpn]; omega
  obtain ⟨x0, hx0⟩ : ∃ x0, l[0] = x0 := ⟨_, rfl⟩
  rw [hx0] at HA0 HW0 HWT0 HS0
  clear hAt hst hlen hI hpn hnn h30 WW LL hLA hlab hpA hAtP hx0 hp0
  obtain ⟨c0, c1, c2, c3, c4, c5, c6, c7⟩ := HE.out _ H0.out.all
  go_enter Tryz.func85, Tryz.ntmps85
  go_wp2_with fail
  refine (H0.out.say [[109, 97, 116, 99, 104, 32]] (by have h := HLEN.out; simp only [List.flatten_cons, List.flatten_nil, List.append_nil, List.length_append, List.length_cons, List.length_nil]; omega) (by simp) 1 rfl _ rfl).mono ?_
  rintro e v1 ⟨rfl, hs1⟩
  have H1 := Lib.hid hs1
  clear hs1 c0 c1 c2 c3 c4 c5 c6 c7
  obtain ⟨c0, c1, c2, c3, c4, c5, c6, c7⟩ := HE.out _ H1.out.all
  rw [HPA.out] at c7
  go_wp2_with fail
  refine (HW0.out.step H1.out HA0.out (by have h := HLEN.out; have h2 := HWT0.out; simp only [List.flatten_cons, List.flatten_nil, List.append_nil, List.length_append, List.length_cons, List.length_nil]; omega)).mono ?_
  rintro e v2 ⟨rfl, hs2⟩
  have H2 := Lib.hid hs2
  clear hs2 c0 c1 c2 c3 c4 c5 c6 c7
  go_wp2_with fail
  refine (H2.out.say [[32, 119, 105, 116, 104]] (by have h := HLEN.out; have h2 := HWT0.out; have h3 := sumTo_sh l HLL.out 1; have h4 : sumTo (shAt l) 1 = x0.sh.length := (by simp only [sumTo, HS0.out]; omega); simp only [List.flatten_cons, List.flatten_nil, List.append_nil, List.length_append, List.length_cons, List.length_nil]; omega) (by simp) 1 rfl _ rfl).mono ?_
  rintro e v3 ⟨rfl, hs3⟩
  have H3 := Lib.hid hs3
  clear hs3
  obtain ⟨c0, c1, c2, c3, c4, c5, c6, c7⟩ := HE.out _ H3.out.all
  rw [HLA.out] at c5
  go_wp2_with fail
  clear c0 c1 c2 c3 c4 c5 c6 c7
  go_loopw [24] (fun i wr => ∃ k : Nat, i = .int .i64 k ∧ k ≤ d.ln ∧ St w0 b (acc ++ [109, 97, 116, 99, 104, 32] ++ x0.sh ++ [32, 119, 105, 116, 104] ++ armsTo d.labels d.names (shAt l) k) w wr) (fun i _ => d.ln - (intOf i).toNat)
  case atStart => exact ⟨0, rfl, Nat.zero_le _, by have h := H3.out; simpa [armsTo, List.append_assoc] using h⟩
  case round =>
    obtain ⟨k, rfl, hk, hst⟩ := hrel
    have HR := Lib.hid hst
    clear hst
    by_cases hlt : k < d.ln
    · have hkl : k + 1 < l.length := by rw [HLP.out, HPN.out.1]; omega
      have hkb : k < d.labels.length := by rw [HLB.out]; exact hlt
      have hkn : k < d.names.length := by rw [HNB.out, HPN.out.2.1]; exact hlt
      obtain ⟨b1, o1, rfl, hcs⟩ := (HLAB.out.below HR.out.all).str hkb
      have hc := hcs k hkb
      obtain ⟨b2, o2, hnA, hcs2⟩ := (HNAM.out.below HR.out.all).str hkn
      have hc2 := hcs2 k hkn
      have HAx := Lib.hid (HATP.out (k + 1) hkl)
      have HWx := Lib.hid (HWW.out l[k + 1] (List.getElem_mem hkl))
      have HWT := Lib.hid (wtL_at l (k + 1) hkl HLL.out)
      have HFL := Lib.hid (armsTo_le d.labels d.names (shAt l) k)
      have HLS := Lib.hid (show sumTo (fun i => d.labels.getD i []) k + (d.labels[k]).length ≤ (d.labels.map List.length).sum by
        have h := sumTo_list d.labels (k + 1)
        rw [show sumTo (fun i => d.labels.getD i []) (k + 1) = sumTo (fun i => d.labels.getD i []) k + (d.labels.getD k []).length from rfl, getD_at hkb] at h
        exact h)
      have HNS := Lib.hid (show sumTo (fun i => d.names.getD i []) k + (d.names[k]).length ≤ (d.names.map List.length).sum by
        have h := sumTo_list d.names (k + 1)
        rw [show sumTo (fun i => d.names.getD i []) (k + 1) = sumTo (fun i => d.names.getD i []) k + (d.names.getD k []).length from rfl, getD_at hkn] at h
        exact h)
      have HN := Lib.hid (show armsTo d.labels d.names (shAt l) (k + 1) = armsTo d.labels d.names (shAt l) k ++ [32, 124, 32] ++ d.labels[k] ++ [32] ++ d.names[k] ++ [32, 45, 62, 32] ++ l[k + 1].sh by
        rw [show armsTo d.labels d.names (shAt l) (k + 1) = armsTo d.labels d.names (shAt l) k ++ [32, 124, 32] ++ d.labels.getD k [] ++ [32] ++ d.names.getD k [] ++ [32, 45, 62, 32] ++ shAt l (k + 1) from rfl, getD_at hkb, getD_at hkn, shAt_get hkl])
      obtain ⟨x, hx⟩ : ∃ x, l[k + 1] = x := ⟨_, rfl⟩
      rw [hx] at HAx HWx HWT HN
      obtain ⟨y, hy⟩ : ∃ y, d.labels[k] = y := ⟨_, rfl⟩
      rw [hy] at HLS HN hc
      obtain ⟨z, hz⟩ : ∃ z, d.names[k] = z := ⟨_, rfl⟩
      rw [hz] at HNS HN hc2
      have hki : (k : Int) < (d.ln : Int) := by omega
      have hkp : (k : Int) + 1 < (d.pn : Int) := by rw [HPN.out.1]; omega
      have hkn2 : (k : Int) < (d.nn : Int) := by rw [HPN.out.2.1]; omega
      have hk0 : (0 : Int) ≤ (k : Int) := by omega
      have hk9 : (k : Int) ≤ 100 := by have := HPN.out.2.2; omega
      obtain ⟨c0, c1, c2, c3, c4, c5, c6, c7⟩ := HE.out _ HR.out.all
      rw [hnA] at c6
      clear hx hy hz hcs hcs2
      go_wp2_with fail
      refine (HR.out.say [[32, 124, 32], y, [32], z, [32, 45, 62, 32]] (by have h := HLEN.out; have h1 := HFL.out; have h2 := HLS.out; have h3 := HWT.out; have h4 := HNS.out; have h5 := congrArg List.length HS0.out; simp only [List.flatten_cons, List.flatten_nil, List.append_nil, List.length_append, List.length_cons, List.length_nil]; omega) (by simp) 5 rfl _ rfl).mono ?_
      rintro e v4 ⟨rfl, hs4⟩
      have H4 := Lib.hid hs4
      clear hs4 c0 c1 c2 c3 c4 c5 c6 c7 hc hc2 hnA
      obtain ⟨c0, c1, c2, c3, c4, c5, c6, c7⟩ := HE.out _ H4.out.all
      rw [HPA.out] at c7
      go_wp2_with fail
      refine (HWx.out.step H4.out HAx.out (by have h := HLEN.out; have h1 := HFL.out; have h2 := HLS.out; have h3 := HWT.out; have h4 := HNS.out; have h5 := congrArg List.length HS0.out; simp only [List.flatten_cons, List.flatten_nil, List.append_nil, List.length_append, List.length_cons, List.length_nil]; omega)).mono ?_
      rintro e v5 ⟨rfl, hs5⟩
      have H5 := Lib.hid hs5
      clear hs5 c0 c1 c2 c3 c4 c5 c6 c7
      go_wp2_with fail
      go_roundw
      case rel => exact ⟨k + 1, by go_num, hlt, by have h := H5.out; rw [HN.out]; simpa [List.append_assoc] using h⟩
      case measure => simp [intOf] <;> omega
    · have hki : ¬ (k : Int) < (d.ln : Int) := by omega
      have HK := Lib.hid (show k = d.ln by omega)
      have HFL := Lib.hid (armsTo_le d.labels d.names (shAt l) k)
      have HLS := Lib.hid (sumTo_list d.labels k)
      have HNS := Lib.hid (sumTo_list d.names k)
      have HWT := Lib.hid (sumTo_sh l HLL.out (k + 1))
      obtain ⟨c0, c1, c2, c3, c4, c5, c6, c7⟩ := HE.out _ HR.out.all
      by_cases ht : d.t = []
      · have g : (bstr d.t).toList.isEmpty = true := by rw [ht, bstr_toList]; rfl
        have g5 : (!(bstr d.t).toList.isEmpty) = false := by rw [g]; rfl
        have HM := Lib.hid (show d.matchF (shAt l) = [109, 97, 116, 99, 104, 32] ++ x0.sh ++ [32, 119, 105, 116, 104] ++ armsTo d.labels d.names (shAt l) k ++ [32, 101, 110, 100] by
          unfold ExD.matchF ExD.restF
          rw [if_pos ht, HS0.out, HK.out, List.append_nil])
        clear ht
        go_wp2_with fail
        refine (HR.out.say [[32, 101, 110, 100]] (by have h := HLEN.out; have h1 := HFL.out; have h2 := HLS.out; have h3 := HWT.out; have h4 := HNS.out; have h5 := congrArg List.length HS0.out; simp only [List.flatten_cons, List.flatten_nil, List.append_nil, List.length_append, List.length_cons, List.length_nil]; omega) (by simp) 1 rfl _ rfl).mono ?_
        rintro e v6 ⟨rfl, hs6⟩
        have H6 := Lib.hid hs6
        clear hs6 c0 c1 c2 c3 c4 c5 c6 c7
        go_wp2_with fail
        go_end0
        exact ⟨rfl, by have h := H6.out; rw [HM.out]; simpa [List.append_assoc] using h⟩
      · have g : (bstr d.t).toList.isEmpty = false := str_empty ht
        have g5 : (!(bstr d.t).toList.isEmpty) = true := by rw [g]; rfl
        have hq : d.pn = (d.ln + 1) + 1 := by rw [HPN.out.1, if_neg ht]
        have hql : d.ln + 1 < l.length := by rw [HLP.out, hq]; omega
        have HAx := Lib.hid (HATP.out (d.ln + 1) hql)
        have HWx := Lib.hid (HWW.out l[d.ln + 1] (List.getElem_mem hql))
        have HWT2 := Lib.hid (wtL_at l (d.ln + 1) hql HLL.out)
        have HSH := Lib.hid (sumTo_sh l HLL.out (d.ln + 1 + 1))
        have HM := Lib.hid (show d.matchF (shAt l) = [109, 97, 116, 99, 104, 32] ++ x0.sh ++ [32, 119, 105, 116, 104] ++ armsTo d.labels d.names (shAt l) k ++ ([32, 124, 32] ++ d.t ++ [32, 45, 62, 32] ++ l[d.ln + 1].sh) ++ [32, 101, 110, 100] by
          unfold ExD.matchF ExD.restF
          rw [if_neg ht, HS0.out, HK.out, hq, Nat.add_sub_cancel, shAt_get hql])
        have HSX := Lib.hid (shAt_get hql)
        obtain ⟨x, hx⟩ : ∃ x, l[d.ln + 1] = x := ⟨_, rfl⟩
        rw [hx] at HAx HWx HWT2 HM HSX
        have HQ := Lib.hid hq
        clear ht hx
        have LENM := Lib.hid (show acc.length + 6 + x0.sh.length + 5 + (armsTo d.labels d.names (shAt l) k).length + 7 + d.t.length + x.wt + 10 ≤ CAP ∧ acc.length + 6 + x0.sh.length + 5 + (armsTo d.labels d.names (shAt l) k).length + 7 + d.t.length + x.sh.length + 10 ≤ CAP by
          have h := HLEN.out; have h1 := HFL.out; have h2 := HLS.out; have h3 := HWT.out; have h4 := HNS.out; have h5 := congrArg List.length HS0.out; have h6 := HWT2.out; have h7 := HSH.out
          rw [show sumTo (shAt l) (d.ln + 1 + 1) = sumTo (shAt l) (d.ln + 1) + (shAt l (d.ln + 1)).length from rfl, HSX.out] at h7
          rw [HK.out] at h1 h2 h3 h4 ⊢
          constructor <;> omega)
        go_wp2_with fail
        refine (HR.out.say [[32, 124, 32], d.t, [32, 45, 62, 32]] (by have h := LENM.out; simp only [List.flatten_cons, List.flatten_nil, List.append_nil, List.length_append, List.length_cons, List.length_nil]; omega) (by simp) 3 rfl _ rfl).mono ?_
        rintro e v6 ⟨rfl, hs6⟩
        have H6 := Lib.hid hs6
        clear hs6 c0 c1 c2 c3 c4 c5 c6 c7
        obtain ⟨c0, c1, c2, c3, c4, c5, c6, c7⟩ := HE.out _ H6.out.all
        rw [HPA.out, HQ.out] at c7
        obtain ⟨m, hm⟩ : ∃ m, d.ln + 1 = m := ⟨_, rfl⟩
        have hm9 : m ≤ 100 := by have := HPN.out.2.2; omega
        rw [hm] at c7 HAx
        go_upto_region 11 with fail
        go_cut [] from 62 to 74 (fun wx => St w0 b (acc ++ [109, 97, 116, 99, 104, 32] ++ x0.sh ++ [32, 119, 105, 116, 104] ++ armsTo d.labels d.names (shAt l) k ++ [[32, 124, 32], d.t, [32, 45, 62, 32]].flatten ++ x.sh) w wx)
        case first =>
          have HD := Lib.hid (show St w0 b (acc ++ [109, 97, 116, 99, 104, 32] ++ x0.sh ++ [32, 119, 105, 116, 104] ++ armsTo d.labels d.names (shAt l) k ++ [[32, 124, 32], d.t, [32, 45, 62, 32]].flatten) w v6.drew from H6.out.below (below_drewN (Below.refl _ _) 1))
          have k7 : v6.drew.cell? ⟨b', o' + 7, none⟩ = some (.slice (some ⟨pb, po, none⟩) (m + 1) d.pc) := c7
          have HC := Lib.hid (HWx.out.step HD.out HAx.out (by have h := LENM.out; simp only [List.flatten_cons, List.flatten_nil, List.append_nil, List.length_append, List.length_cons, List.length_nil]; omega))
          have i1 : (m : Int) < (m : Int) + 1 := by omega
          have i2 : (0 : Int) ≤ (m : Int) := by omega
          have hwr : IntKind.i64.wrap (m : Int) = (m : Int) := by rw [IntKind.wrap_i64]; omega
          go_region_with ((go_at_call 34; (with_reducible refine HC.out.mono ?_); rintro e v9 ⟨rfl, hs9⟩))
          all_goals
            go_wp2_with fail
            go_meet
            exact hs9
        case rest =>
        have H7 := Lib.hid hcut
        clear hcut c0 c1 c2 c3 c4 c5 c6 c7
        go_wp2_with fail
        refine (H7.out.say [[32, 101, 110, 100]] (by have h := LENM.out; simp only [List.flatten_cons, List.flatten_nil, List.append_nil, List.length_append, List.length_cons, List.length_nil]; omega) (by simp) 1 rfl _ rfl).mono ?_
        rintro e v8 ⟨rfl, hs8⟩
        have H8 := Lib.hid hs8
        clear hs8
        go_wp2_with fail
        go_end0
        exact ⟨rfl, by have h := H8.out; rw [HM.out]; simpa [List.append_assoc] using h⟩

set_option maxRecDepth 100000 in
set_option maxHeartbeats 2000000 in
theorem block_14 (w0 : World) (d : ExD) (wt : Nat) (r : Str) (hk : d.kind = 14) (HMa : FunAt 85 w0 d wt r) : FunAt 61 w0 d wt r := by
  intro b b' o' acc w hAt hst hlen
  have H0 := Lib.hid hst
  have HA := Lib.hid hAt
  have HL := Lib.hid hlen
  have HM := Lib.hid HMa
  obtain ⟨c0, _, _, _, _, _, _, _⟩ := hAt.lower hst.all
  have q4 : (d.kind == 4) = false := by rw [hk]; rfl
  have q6 : (d.kind == 6) = false := by rw [hk]; rfl
  have q7 : (d.kind == 7) = false := by rw [hk]; rfl
  have q15 : (d.kind == 15) = false := by rw [hk]; rfl
  have q14 : (d.kind == 14) = true := by rw [hk]; rfl
  clear hAt hst hlen hk HMa
  go_enter Tryz.func61, Tryz.ntmps61
  go_wp2_with fail
  refine (HM.out.step H0.out HA.out HL.out).mono ?_
  rintro e v1 ⟨rfl, hs1⟩
  have H1 := Lib.hid hs1
  clear hs1 c0
  go_wp2_with fail
  go_end0
  exact ⟨rfl, H1.out⟩
end Go.Proofs.YtaglmmcjhlehjaaGreatDoor
