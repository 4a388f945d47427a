/-
  The machine: an integer's digits.
  Rows of values, one behind the other, in new memory.
  core's machine: what lies in a tuple.
-/
import Derived.Test.YtpdfjdomjklkbaaGreatDoorK06
import Derived.Test.YtpdfjdomjklkbaaGreatDoorShelfN
import Derived.Lib.ItoaLen
import Derived.Lib.LaidTab
import Derived.Shelf.Spec.SlicesGrow
namespace Go.Proofs.YtpdfjdomjklkbaaGreatDoor
open Go.ChangeShapes Go.WideShapes Go.ChangeAt Go.RowKit Go.Sort
set_option linter.unusedVariables false
set_option linter.unusedSimpArgs false

abbrev Tab (w : World) : Prop := Lib.TabIs Tryz.prog w "internal/strconv.uint64pow10" .u64 Lib.pow10Tab
theorem gTab : Tryz.prog.globalNamed "internal/strconv.uint64pow10" = some 0 := by kernel_rfl
theorem tab_below {w w' : World} (h : Tab w) (hb : Below w.heap.size w w') : Tab w' := by
  unfold Tab Lib.TabIs World.var? at h ⊢
  rw [gTab] at h ⊢
  simp only [Option.bind_some] at h ⊢
  have hlt : 0 < w.heap.size := by
    rcases Nat.lt_or_ge 0 w.heap.size with h' | h'
    · exact h'
    · rw [Array.getElem?_eq_none h'] at h; cases h
  rw [hb.block _ hlt]
  exact h
theorem below_growN {w : World} (k : Nat) (os : Array Obj) : Below w.heap.size w (grow (w.drewN k) os) := by
  have h := below_regrown w (w.drewN k).drawn os
  exact h
theorem itoa_len (n : Int) (h : -9223372036854775808 ≤ n ∧ n ≤ 9223372036854775807) : (Lib.itoa n).length ≤ 21 := Lib.itoa_length_le n h.1 h.2
def St.shw (s : St) (z : Val) : St := s.tell (.mk 2 0 (Lib.itoa z.n) [] none) 0 (z.sort == 1)
section
variable {w0 w : World} {B mb : Nat} {s : St} {t i r v f nx nm : Value} {rcs vcs fcs : List (List Value)}
set_option maxHeartbeats 4000000 in
theorem show_any (h : Rep w0 B mb s w t i r v f nx nm rcs vcs fcs) (hv : s.vals.length ≤ 100000000000) (hT : Tab w) (z : Val) (A : Option Addr) (c : Nat) (p : Option Addr) (hn : -9223372036854775808 ≤ z.n ∧ z.n ≤ 9223372036854775807) :
    Calls Tryz.prog 67 #[.pointer (some ⟨mb, 0, none⟩), .agg #[.int .i64 z.sort, .int .i64 z.n, .string (bstr z.s), .slice none 0 0, .slice A z.l.length c, .pointer p]] w fun e w' => e = .returned (.tuple #[]) ∧ Post w0 B mb (Mv mb t r v f) w (s.shw z) w' := by
  have hb : Below w.heap.size w (w.alloc (.cells #[.int .i64 z.sort, .int .i64 z.n, .string (bstr z.s), .slice none 0 0, .slice A z.l.length c, .pointer p] 60)) := (Below.refl _ _).alloc (Nat.le_refl _) _
  obtain ⟨a0, a1, a2, a3, a4, a5⟩ := cells6 (heap_new (w := w) (o := .cells #[.int .i64 z.sort, .int .i64 z.n, .string (bstr z.s), .slice none 0 0, .slice A z.l.length c, .pointer p] 60) rfl)
  obtain ⟨I, hI⟩ : ∃ I, Lib.itoa z.n = I := ⟨_, rfl⟩
  have HC := Lib.hid (fun (wr : World) (hb' : Below w.heap.size w wr) => (show Calls Tryz.prog 86 #[.int .i64 z.n, .int .i64 10] wr fun e w' => e = .returned (.string (bstr I)) ∧ Below wr.heap.size wr w' from by rw [← hI]; exact (Tryz.strconv_FormatInt_10 z.n hn.1 hn.2 wr (tab_below hT hb')).mono fun e w' ⟨he, k, os, hw⟩ => ⟨he, by rw [hw]; exact below_growN k os⟩))
  have HT := Lib.hid (fun (wr : World) (hb' : Below w.heap.size w wr) => (show Calls Tryz.prog 58 #[.pointer (some ⟨mb, 0, none⟩), .agg #[.int .i64 2, .int .i64 0, .string (bstr I), .slice none 0 0, .slice none 0 0, .pointer none], .int .i64 0, .bool (z.sort == 1)] wr fun e w' => e = .returned (.tuple #[]) ∧ Post w0 B mb (Mv mb t r v f) wr (s.shw z) w' from by unfold St.shw; rw [hI]; exact tellG_any (h.below hb') hv 2 0 I 0 (z.sort == 1)))
  have HB := Lib.hid hb
  have HBM := Lib.hid (fun (wr : World) (hb : Below w.heap.size w wr) => And.intro (Tr.below (P := Mv mb t r v f) hb) (hb.mono (Nat.le_of_lt (Nat.lt_of_le_of_lt h.base.2 h.lt))))
  have HA0 := Lib.hid a0
  clear h hv hT hb hI hn
  go_enter Tryz.func67, Tryz.ntmps67
  go_upto_region 1 with fail
  go_region_law (first
    | (go_simp; go_at_call 86; (with_reducible refine (HC.out _ (Below.drew HB.out)).mono ?_); rintro e1 w2 ⟨rfl, hb2⟩; have hb3 := below_then (Below.drew HB.out) hb2; have e0 : w2.cell? ⟨w.heap.size, 0, none⟩ = some (.int .i64 z.sort) := cell_below hb2 HA0.out; have HB2 := Lib.hid hb3; clear hb2 hb3)
    | (go_simp; go_at_call 58; (with_reducible refine (HT.out _ HB2.out).mono ?_); rintro e1 w3 ⟨rfl, hp⟩; have HP := Lib.hid hp; clear hp))
  all_goals
    go_wp2_with fail
    go_returns
    with_reducible exact ⟨rfl, HP.out.mono (HBM.out _ HB2.out).1 (HBM.out _ HB2.out).2⟩
end
end Go.Proofs.YtpdfjdomjklkbaaGreatDoor

namespace Go.Proofs.YtpdfjdomjklkbaaGreatDoor
open Go.ChangeShapes Go.WideShapes Go.ChangeAt Go.RowKit Go.Sort
set_option linter.unusedVariables false
set_option linter.unusedSimpArgs false

theorem vgrow_any (w : World) (n : Nat) (hn : n ≤ 100000000000) :
    Calls Tryz.prog 93 #[.slice none 0 0, .int .i64 n] w fun e w' => ∃ u, e = .returned u ∧ w'.ownsRow w.heap.size 60 6 u 0 [] ∧ Below w.heap.size w w' := by
  rcases Nat.eq_zero_or_pos n with h0 | h0
  · subst h0
    refine (Any8.slices_Grow_room Tryz.growV none 0 0 0 w (Nat.le_refl _) (by omega) (by omega) (by omega)).mono ?_
    rintro e w' ⟨rfl, rfl⟩
    exact ⟨_, rfl, World.ownsRow_nil _ _ _ _, Below.refl _ _⟩
  · obtain ⟨i, hi, hz, hs, hb⟩ := info_parts elVal.info
    refine (Any8.slices_Grow_grow Tryz.growV i _ hi hz (by rw [hs]; decide) none 0 0 n [] w (Nat.le_refl _) (by omega) (by rw [hb]; omega) (by omega) (by simp) (fun _ => rfl) (fun a h => by cases h)).mono ?_
    rintro e w' ⟨rfl, rfl⟩
    have hle := grownCap_le_maxLen w (0 + n) 0 (Tryz.growV_ren.t 25) (by simp only [maxLen]; omega)
    have hge := grownCap_ge w (0 + n) 0 (Tryz.growV_ren.t 25)
    refine ⟨_, rfl, World.ownsRow_made (base := w.heap.size) (e := 60) (size := 6) w.drew _ _ (Nat.le_refl _) hle ?_, ((Below.refl _ _).drew.alloc (Nat.le_refl _) _)⟩
    rw [Array.size_append, Array.size_append, size_zeroCells, size_zeroCells, elVal.zs]
    generalize grownCap w (0 + n) 0 (Tryz.growV_ren.t 25) = G at *
    simp
    omega
theorem own_mono {w : World} {base B : Nat} {e : TypeId} {size n : Nat} {v : Value} {xs : List Value} (h : w.ownsRow base e size v n xs) (hB : B ≤ base) : w.ownsRow B e size v n xs := by
  refine ⟨h.1, ?_⟩
  rcases h.2 with hn | ⟨g, cap, cur, rfl, hb, rest⟩
  · exact .inl hn
  · exact .inr ⟨g, cap, cur, rfl, by omega, rest⟩
/-- A row of values, where it lies. -/
structure Rw where
  A : Option Addr
  l : List Val
  c : Nat
  css : List (List Value)
def Rw.cell (r : Rw) : Value := .slice r.A r.l.length r.c
theorem LR.app {α : Type} {R : α → List Value → Prop} {l l2 : List α} {css css2 : List (List Value)} (h : LR R l css) (h2 : LR R l2 css2) : LR R (l ++ l2) (css ++ css2) := by
  refine ⟨by rw [List.length_append, List.length_append, h.len, h2.len], fun i a c e1 e2 => ?_⟩
  by_cases hi : i < l.length
  · rw [List.getElem?_append_left hi] at e1
    rw [List.getElem?_append_left (by rw [h.len]; exact hi)] at e2
    exact h.at_ i a c e1 e2
  · rw [List.getElem?_append_right (by omega)] at e1
    rw [List.getElem?_append_right (by rw [h.len]; omega), h.len] at e2
    exact h2.at_ _ a c e1 e2
theorem rows_lr {w0 w : World} {P : Nat → Prop} : ∀ (rows : List Rw), (∀ r ∈ rows, Vs w0 w P r.l r.A r.css) → LR (VR w0 w P) (rows.flatMap Rw.l) (rows.flatMap Rw.css)
  | [], _ => LR.nil
  | r :: rows, h => by
    rw [List.flatMap_cons, List.flatMap_cons]
    exact (h r (List.mem_cons_self ..)).lr.app (rows_lr rows (fun x hx => h x (List.mem_cons_of_mem _ hx)))
theorem rows_take (rows : List Rw) (k : Nat) (r : Rw) (hk : rows[k]? = some r) : (rows.take (k + 1)).flatMap Rw.l = (rows.take k).flatMap Rw.l ++ r.l ∧ (rows.take (k + 1)).flatMap Rw.css = (rows.take k).flatMap Rw.css ++ r.css := by
  rw [List.take_add_one, hk]
  simp
theorem rows_le (rows : List Rw) (k : Nat) : ((rows.take k).flatMap Rw.l).length ≤ (rows.flatMap Rw.l).length := by
  conv => rhs; rw [← List.take_append_drop k rows, List.flatMap_append, List.length_append]
  omega
theorem vs_ones {w0 w : World} {P : Nat → Prop} {l : List Val} {A : Option Addr} {css : List (List Value)} (h : Vs w0 w P l A css) : ∀ u ∈ css.flatten, u.oneCell' = true := vrs_ones h.lr
set_option maxRecDepth 100000 in
set_option maxHeartbeats 4000000 in
theorem vconcat_any (w0 w : World) (P : Nat → Prop) (rows : List Rw) (A : Option Addr) (c : Nat) (hR : Rd w 1 A rows.length (rows.map Rw.cell)) (hV : ∀ r ∈ rows, Vs w0 w P r.l r.A r.css) (hm : (rows.flatMap Rw.l).length ≤ 100000000000) (hr : rows.length ≤ 4000000) :
    Calls Tryz.prog 81 #[.slice A rows.length c] w fun e w' => ∃ A' c', e = .returned (.slice A' (rows.flatMap Rw.l).length c') ∧ Vs w0 w' P (rows.flatMap Rw.l) A' (rows.flatMap Rw.css) ∧ Below w.heap.size w w' := by
  have HR := Lib.hid hR
  have HV := Lib.hid hV
  have HM := Lib.hid hm
  have HK : ∀ (wr : World), Below w.heap.size w wr → ∀ (k : Nat), k < rows.length → ∃ (b o : Nat) (r : Rw), A = some ⟨b, o, none⟩ ∧ rows[k]? = some r ∧ wr.cell? ⟨b, o + k, none⟩ = some (.slice r.A r.l.length r.c) ∧ Vs w0 wr P r.l r.A r.css := by
    intro wr hb k hk
    obtain ⟨b, o, e, hbl, hh⟩ := (HR.out.below hb).base (by rw [List.length_map]; omega)
    refine ⟨b, o, rows[k], e, List.getElem?_eq_getElem hk, ?_, (HV.out _ (List.getElem_mem hk)).below hb⟩
    have := hh k (Rw.cell rows[k]) (by rw [List.getElem?_map, List.getElem?_eq_getElem hk]; rfl)
    exact this
  have HKK := Lib.hid HK
  clear hR hV hm HK
  go_enter Tryz.func81, Tryz.ntmps81
  go_wp2_with fail
  go_loopw [3, 5, 11] (fun m _ i wr => ∃ k : Nat, i = .int .i64 k ∧ k ≤ rows.length ∧ m = .int .i64 ((rows.take k).flatMap Rw.l).length ∧ Below w.heap.size w wr) (fun _ _ i _ => rows.length - (intOf i).toNat)
  case atStart => exact ⟨0, rfl, by omega, rfl, Below.refl _ _⟩
  case round =>
    obtain ⟨k, rfl, hk, rfl, hb⟩ := hrel
    by_cases hlt : k < rows.length
    · obtain ⟨b, o, r, rfl, hkr, hcell, hvs⟩ := HKK.out _ hb k hlt
      have ht := (rows_take rows k r hkr).1
      have hle := rows_le rows (k + 1)
      rw [ht, List.length_append] at hle
      have hT : ((rows.take (k + 1)).flatMap Rw.l).length = ((rows.take k).flatMap Rw.l).length + r.l.length := by rw [ht, List.length_append]
      have HB := Lib.hid hb
      have HT := Lib.hid hT
      obtain ⟨T, hTT⟩ : ∃ T, ((rows.take k).flatMap Rw.l).length = T := ⟨_, rfl⟩
      obtain ⟨R, hRR⟩ : ∃ R, r.l.length = R := ⟨_, rfl⟩
      rw [hTT, hRR] at HT hle
      rw [hRR] at hcell
      rw [hTT]
      have hb1 : (T : Int) + R ≤ 100000000000 := by have := HM.out; omega
      have hb0 : (0 : Int) ≤ (T : Int) + R := by omega
      clear hT ht hvs hb hTT hRR hkr hle
      go_wp2_with fail
      go_roundw
      case rel => exact ⟨k + 1, by go_num, by omega, by rw [HT.out]; go_num, HB.out⟩
      case measure => simp [intOf] <;> omega
    · have hkk : k = rows.length := by omega
      subst hkk
      rw [List.take_length]
      obtain ⟨T, hTT⟩ : ∃ T, (rows.flatMap Rw.l).length = T := ⟨_, rfl⟩
      have HB := Lib.hid hb
      have HG := Lib.hid (fun (wr : World) => vgrow_any wr T (by have := HM.out; omega))
      rw [hTT]
      have HTT := Lib.hid hTT
      clear hb hTT hk
      go_wp2_with (go_at_call 93; (with_reducible refine (HG.out _).mono ?_); rintro e w1 ⟨u, rfl, hown, hb1⟩; have HO := Lib.hid (And.intro (own_mono hown HB.out.size) (below_then HB.out hb1)); clear hown hb1)
      go_loopw [6, 8, 27] (fun u _ i wr => ∃ k : Nat, i = .int .i64 k ∧ k ≤ rows.length ∧ wr.ownsRow w.heap.size 60 6 u ((rows.take k).flatMap Rw.l).length ((rows.take k).flatMap Rw.css).flatten ∧ Below w.heap.size w wr) (fun _ _ i _ => rows.length - (intOf i).toNat)
      case atStart => exact ⟨0, rfl, by omega, HO.out.1, HO.out.2⟩
      case round =>
        obtain ⟨k, rfl, hk, hown, hb⟩ := hrel
        by_cases hlt2 : k < rows.length
        · obtain ⟨b, o, r, rfl, hkr, hcell, hvs⟩ := HKK.out _ hb k hlt2
          obtain ⟨ht, ht2⟩ := rows_take rows k r hkr
          have hle := rows_le rows (k + 1)
          rw [ht, List.length_append] at hle
          have HT := Lib.hid (And.intro ht (And.intro ht2 hle))
          have HVS := Lib.hid hvs
          have HOW := Lib.hid hown
          have HB2 := Lib.hid hb
          clear ht ht2 hvs hown hb hkr hle
          go_wp2_with (at_builtin; refine wpList_app elVal _ rfl (.tmp 31) (.tmp 32) rfl w.heap.size _ _ _ rfl HOW.out r.A r.l.length r.c _ rfl HVS.out.rd (vs_ones HVS.out) (by have := HT.out.2.2; have := HM.out; omega) HB2.out.size ?_; intro v6 w6 hown6 hb6 hg6 hat6; have H6 := Lib.hid (And.intro hown6 hb6); clear hown6 hb6 hg6 hat6)
          go_roundw
          case rel => exact ⟨k + 1, by go_num, by omega, by rw [HT.out.1, HT.out.2.1, List.length_append, List.flatten_append]; exact H6.out.1, HB2.out.trans H6.out.2⟩
          case measure => simp [intOf] <;> omega
        · have hkk : k = rows.length := by omega
          subst hkk
          rw [List.take_length] at hown
          obtain ⟨A', c', rfl, hc'⟩ := own_cap hown
          have HOW := Lib.hid hown
          have HB2 := Lib.hid hb
          clear hown hb hk
          go_wp2_with fail
          go_returns
          exact ⟨A', c', rfl, ⟨Rd.of_own HOW.out, rows_lr rows (fun r hr => (HV.out r hr).below HB2.out)⟩, HB2.out⟩
end Go.Proofs.YtpdfjdomjklkbaaGreatDoor

namespace Go.Proofs.YtpdfjdomjklkbaaGreatDoor
open Go.ChangeShapes Go.WideShapes Go.ChangeAt Go.RowKit Go.Sort
set_option linter.unusedVariables false
set_option linter.unusedSimpArgs false

abbrev boxM (mb : Nat) : Obj := .cells #[.pointer (some ⟨mb, 0, none⟩)] 56
abbrev boxV (z : Val) (A : Option Addr) (c : Nat) (p : Option Addr) : Obj := .cells #[.int .i64 z.sort, .int .i64 z.n, .string (bstr z.s), .slice none 0 0, .slice A z.l.length c, .pointer p] 60
/-- Two new blocks. -/
theorem two_new (W : World) (n : Nat) (hn : W.heap.size = n) (o1 o2 : Obj) : ((W.alloc o1).alloc o2).drew.heap[n]? = some o1 ∧ ((W.alloc o1).alloc o2).drew.heap[n + 1]? = some o2 ∧ Below W.heap.size W ((W.alloc o1).alloc o2).drew := by
  subst hn
  refine ⟨(Below.heap_alloc _ _ _ (by rw [World.size_alloc]; omega)).trans (heap_new rfl), heap_new (World.size_alloc _ _), (((Below.refl _ _).alloc (Nat.le_refl _) _).alloc (by rw [World.size_alloc]; omega) _).drew⟩
def tupOf (kind : Int) (x f : Val) (i : Nat) : List Val :=
  if kind = 11 then f.l.take i ++ f.l.drop (i + 1)
  else if kind = 10 then f.l.take i ++ ([x] ++ f.l.drop i)
  else f.l.take i ++ ([x] ++ f.l.drop (i + 1))
def St.inTup (s : St) (kind : Int) (x y f : Val) : St :=
  if isTup f y (if kind = 10 then 1 else 0) = true then
    (if kind = 9 then { s with vals := s.vals ++ [f.l[y.n.toNat]?.getD (.mk 0 0 [] [] none)] } else { s with vals := s.vals ++ [.mk 4 0 [] (tupOf kind x f y.n.toNat) none] })
  else { s with err := 11 }
/-- A value's parts, where they lie. -/
theorem VR.vs {w0 w : World} {P : Nat → Prop} {z : Val} {A : Option Addr} {c : Nat} {p : Option Addr} (h : VR w0 w P z [.int .i64 z.sort, .int .i64 z.n, .string (bstr z.s), .slice none 0 0, .slice A z.l.length c, .pointer p]) :
    ∃ css, Vs w0 w P z.l A css ∧ (z.l.length ≤ c ∧ c ≤ maxLen) ∧ (0 < z.l.length → ∀ a, A = some a → P a.block) := by
  cases h with
  | mk sort n s l f A c css u len rd bl cap sub fn => exact ⟨css, ⟨rd, len, fun i v cs h1 h2 => sub i v cs h1 h2⟩, cap, bl⟩
theorem Vs.addr {w0 w : World} {P : Nat → Prop} {l : List Val} {A : Option Addr} {css : List (List Value)} (h : Vs w0 w P l A css) (hl : 0 < l.length) : ∃ b o, A = some ⟨b, o, none⟩ := by
  obtain ⟨b, o, e, _⟩ := h.rd.base (by rw [h.rd.1]; omega)
  exact ⟨b, o, e⟩
theorem isTup_iff {z y : Val} {m : Int} (h : isTup z y m = true) : z.sort = 4 ∧ y.sort = 1 ∧ ∃ k : Nat, y.n = k ∧ (k : Int) < z.l.length + m := by
  have h2 := of_decide_eq_true h
  exact ⟨h2.1, h2.2.1, y.n.toNat, by omega, by omega⟩
theorem keep2 {w0 w : World} {B mb : Nat} {s : St} {t i r v f0 nx nm : Value} {rcs vcs fcs : List (List Value)} (h : Rep w0 B mb s w t i r v f0 nx nm rcs vcs fcs) {wr w3 : World} {s' : St} {b : Nat} {u0 u2 : Value} (hbl : w.heap.size ≤ b) (hS : wr.cell? ⟨w.heap.size, 0, none⟩ = some u0 ∧ wr.cell? ⟨b, 4, none⟩ = some u2) (hp : Post w0 B mb (Mv mb t r v f0) wr s' w3) :
    w3.cell? ⟨w.heap.size, 0, none⟩ = some u0 ∧ w3.cell? ⟨b, 4, none⟩ = some u2 := by
  obtain ⟨t', i', r', v', f', nx', nm', rcs', vcs', fcs', h1, h2, h3⟩ := hp
  exact ⟨cell_tr h2 (h.mvNew _ (Nat.le_refl _)) hS.1, cell_tr h2 (h.mvNew _ hbl) hS.2⟩
theorem flat_drop6 {css : List (List Value)} (h : ∀ c ∈ css, c.length = 6) (n : Nat) : css.flatten.drop (n * 6) = (css.drop n).flatten := by
  induction css generalizing n with
  | nil => simp
  | cons x css ih =>
    cases n with
    | zero => simp
    | succ n =>
      have hx := h x (List.mem_cons_self ..)
      rw [List.flatten_cons, List.drop_succ_cons, List.drop_append, List.drop_of_length_le (by rw [hx]; omega), List.nil_append, hx, show (n + 1) * 6 - 6 = n * 6 from by omega, ih (fun c hc => h c (List.mem_cons_of_mem _ hc))]
theorem Vs.cut {w0 w : World} {P : Nat → Prop} {l : List Val} {A : Option Addr} {css : List (List Value)} (h : Vs w0 w P l A css) {lo hi : Nat} (h1 : lo ≤ hi) (h2 : hi ≤ l.length) : Vs w0 w P ((l.drop lo).take (hi - lo)) (A.map (fun x => x.add (lo * 6))) ((css.drop lo).take (hi - lo)) := by
  have h6 := VR.lens h.lr
  have e : ((css.drop lo).take (hi - lo)).flatten = (css.flatten.drop (lo * 6)).take ((hi - lo) * 6) := by
    rw [← flat_take2 (fun c hc => h6 c (List.mem_of_mem_drop hc)), ← flat_drop6 h6]
  refine ⟨?_, (h.lr.drop lo).take _⟩
  have := h.rd.cut (lo := lo) (hi := hi) (k := lo * 6) h1 h2 rfl
  rw [e, show ((l.drop lo).take (hi - lo)).length = hi - lo from by rw [List.length_take, List.length_drop]; omega]
  exact this
theorem Vs.take {w0 w : World} {P : Nat → Prop} {l : List Val} {a : Addr} {css : List (List Value)} (h : Vs w0 w P l (some a) css) (k : Nat) (hk : k ≤ l.length) : Vs w0 w P (l.take k) (some a) (css.take k) := by
  have := h.cut (lo := 0) (hi := k) (by omega) hk
  rw [Nat.zero_mul, List.drop_zero, List.drop_zero, Nat.sub_zero, Option.map_some, add_zero] at this
  exact this
theorem Vs.drop {w0 w : World} {P : Nat → Prop} {l : List Val} {a : Addr} {css : List (List Value)} (h : Vs w0 w P l (some a) css) (k : Nat) (hk : k ≤ l.length) : Vs w0 w P (l.drop k) (some (a.add (k * 6))) (css.drop k) := by
  have := h.cut (lo := k) (hi := l.length) hk (Nat.le_refl _)
  rw [Option.map_some, List.take_of_length_le (by rw [List.length_drop]; exact Nat.le_refl _), List.take_of_length_le (by rw [List.length_drop, h.lr.len]; exact Nat.le_refl _)] at this
  exact this
theorem Vs.dropC {w0 w : World} {P : Nat → Prop} {l : List Val} {a : Addr} {css : List (List Value)} (h : Vs w0 w P l (some a) css) (k : Nat) (hk : k ≤ l.length) (c : Nat) (hc : l.length ≤ c) : Vs w0 w P (l.drop k) (if c = k then some a else some (a.add (k * 6))) (css.drop k) := by
  split
  · rename_i e
    have e1 : l.drop k = [] := List.drop_eq_nil_of_le (by omega)
    have e2 : css.drop k = [] := List.drop_eq_nil_of_le (by rw [h.lr.len]; omega)
    rw [e1, e2]
    exact ⟨Rd.nil w 6 _, LR.nil⟩
  · exact h.drop k hk
theorem Vs.one {w0 w wr : World} {P : Nat → Prop} {x : Val} {l : List Val} {a : Addr} {css : List (List Value)} (h : Vs w0 w P (x :: l) (some a) css) (hb : Below w.heap.size w wr) : Vs w0 wr P [x] (some a) (css.take 1) := by
  have := (h.take 1 (by simp)).below hb
  exact this
section
variable {w0 w : World} {B mb : Nat} {s : St} {t i r v f0 nx nm : Value} {rcs vcs fcs : List (List Value)}
set_option maxRecDepth 100000 in
set_option maxHeartbeats 16000000 in
theorem inSelF (h : Rep w0 B mb s w t i r v f0 nx nm rcs vcs fcs) (hv : s.vals.length ≤ 100000000000) (x y : Val) (css : List (List Value)) (ab ao c : Nat) (hl : Vs w0 w (Mv mb t r v f0) [x, y] (some ⟨ab, ao, none⟩) css) (hx : x.l.length ≤ 90000000000) (hT : isTup x y 0 = false) :
    Calls Tryz.prog 61 #[.agg #[.pointer (some ⟨mb, 0, none⟩)], .int .i64 9, .slice (some ⟨ab, ao, none⟩) 2 c] w fun e1 w' => e1 = .returned (.tuple #[]) ∧ Post w0 B mb (Mv mb t r v f0) w (s.inTup 9 x y x) w' := by
  have hb : Below w.heap.size w (w.alloc (boxM mb)) := (Below.refl _ _).alloc (Nat.le_refl _) _
  obtain ⟨A0, kc0, p0, hz0, g00, g01, g02, g03, g04, g05⟩ := (hl.below hb).six 0 (z := x) rfl (ao) (ao + 1) (ao + 2) (ao + 3) (ao + 4) (ao + 5) ⟨by omega, by omega, by omega, by omega, by omega, by omega⟩
  obtain ⟨A1, kc1, p1, hz1, g10, g11, g12, g13, g14, g15⟩ := (hl.below hb).six 1 (z := y) rfl (ao + 6) (ao + 6 + 1) (ao + 6 + 2) (ao + 6 + 3) (ao + 6 + 4) (ao + 6 + 5) ⟨by omega, by omega, by omega, by omega, by omega, by omega⟩
  have HSK := Lib.hid (fun (V : World) (hb' : Below (w.alloc (boxM mb)).heap.size (w.alloc (boxM mb)) V) => (show V.cell? ⟨ab, ao, none⟩ = some (.int .i64 x.sort) ∧ V.cell? ⟨ab, ao + 1, none⟩ = some (.int .i64 x.n) ∧ V.cell? ⟨ab, ao + 2, none⟩ = some (.string (bstr x.s)) ∧ V.cell? ⟨ab, ao + 3, none⟩ = some (.slice none 0 0) ∧ V.cell? ⟨ab, ao + 4, none⟩ = some (.slice A0 x.l.length kc0) ∧ V.cell? ⟨ab, ao + 5, none⟩ = some (.pointer p0) ∧ V.cell? ⟨ab, ao + 6, none⟩ = some (.int .i64 y.sort) ∧ V.cell? ⟨ab, ao + 6 + 1, none⟩ = some (.int .i64 y.n) ∧ V.cell? ⟨ab, ao + 6 + 2, none⟩ = some (.string (bstr y.s)) ∧ V.cell? ⟨ab, ao + 6 + 3, none⟩ = some (.slice none 0 0) ∧ V.cell? ⟨ab, ao + 6 + 4, none⟩ = some (.slice A1 y.l.length kc1) ∧ V.cell? ⟨ab, ao + 6 + 5, none⟩ = some (.pointer p1) from ⟨cell_below hb' g00, cell_below hb' g01, cell_below hb' g02, cell_below hb' g03, cell_below hb' g04, cell_below hb' g05, cell_below hb' g10, cell_below hb' g11, cell_below hb' g12, cell_below hb' g13, cell_below hb' g14, cell_below hb' g15⟩))
  clear g00 g01 g02 g03 g04 g05 g10 g11 g12 g13 g14 g15
  have HX0 := Lib.hid (heap_new (w := w) (o := boxM mb) rfl)
  have HZ0 := Lib.hid hz0
  have HZ1 := Lib.hid hz1
  have HB := Lib.hid hb
  have HH := Lib.hid h
  have HV := Lib.hid hv
  have HXL := Lib.hid hx
  have HT1 := Lib.hid (two_new (w.alloc (boxM mb)) (w.heap.size + 1) (World.size_alloc _ _) (boxV x A0 kc0 p0) (boxV y A1 kc1 p1))
  have HT2 := Lib.hid (two_new (w.alloc (boxM mb)) (w.heap.size + 1) (World.size_alloc _ _) (boxV y A1 kc1 p1) (boxV x A0 kc0 p0))
  have HBM := Lib.hid (fun (wr : World) (hb : Below w.heap.size w wr) => And.intro (Tr.below (P := Mv mb t r v f0) hb) (hb.mono (Nat.le_of_lt (Nat.lt_of_le_of_lt h.base.2 h.lt))))
  have HS := Lib.hid (fun (wr : World) (hb : Below w.heap.size w wr) => stuck_any (h.below hb))
  have HE : s.inTup 9 x y x = { s with err := 11 } := by unfold St.inTup; rw [show (if (9 : Int) = 10 then (1 : Int) else 0) = 0 from rfl, hT, if_neg (by decide)]
  rw [HE]
  clear HE h hb hl hv hx hz0 hz1
  go_enter Tryz.func61, Tryz.ntmps61
  go_upto_region 1 with fail
  go_cut [6, 7, 8] (fun u6 u7 u8 wx => ∃ b1 b2 : Nat, u6 = .pointer (some ⟨b1, 0, none⟩) ∧ u7 = .pointer (some ⟨b2, 0, none⟩) ∧ u8 = .int .i64 0 ∧ w.heap.size < b1 ∧ w.heap.size < b2 ∧ b1 ≠ b2 ∧ wx.heap[b1]? = some (boxV x A0 kc0 p0) ∧ wx.heap[b2]? = some (boxV y A1 kc1 p1) ∧ Below (w.alloc (boxM mb)).heap.size (w.alloc (boxM mb)) wx)
  case first =>
    go_region_held3 (fun V => V.cell? ⟨ab, ao, none⟩ = some (.int .i64 x.sort) ∧ V.cell? ⟨ab, ao + 1, none⟩ = some (.int .i64 x.n) ∧ V.cell? ⟨ab, ao + 2, none⟩ = some (.string (bstr x.s)) ∧ V.cell? ⟨ab, ao + 3, none⟩ = some (.slice none 0 0) ∧ V.cell? ⟨ab, ao + 4, none⟩ = some (.slice A0 x.l.length kc0) ∧ V.cell? ⟨ab, ao + 5, none⟩ = some (.pointer p0) ∧ V.cell? ⟨ab, ao + 6, none⟩ = some (.int .i64 y.sort) ∧ V.cell? ⟨ab, ao + 6 + 1, none⟩ = some (.int .i64 y.n) ∧ V.cell? ⟨ab, ao + 6 + 2, none⟩ = some (.string (bstr y.s)) ∧ V.cell? ⟨ab, ao + 6 + 3, none⟩ = some (.slice none 0 0) ∧ V.cell? ⟨ab, ao + 6 + 4, none⟩ = some (.slice A1 y.l.length kc1) ∧ V.cell? ⟨ab, ao + 6 + 5, none⟩ = some (.pointer p1))
      (with_reducible exact HSK.out _ (by go_grown))
      (first | fail)
    all_goals
      clear HSK
      go_wp2_with fail
      go_meet
      first
        | exact ⟨w.heap.size + 1, w.heap.size + 2, rfl, rfl, rfl, by omega, by omega, by omega, HT1.out⟩
        | exact ⟨w.heap.size + 2, w.heap.size + 1, rfl, rfl, rfl, by omega, by omega, by omega, HT2.out.2.1, HT2.out.1, HT2.out.2.2⟩
  case rest =>
    obtain ⟨b1, b2, rfl, rfl, rfl, hb1g, hb2g, hb12, hq1, hq2, hbq⟩ := hcut
    clear HT1 HT2 HSK
    have HBW := Lib.hid (below_then HB.out hbq)
    have hc0 : wc.heap[w.heap.size]? = some (boxM mb) := (hbq.block _ (lt_of_heap HX0.out)).trans HX0.out
    have HQ := Lib.hid (And.intro hq1 (And.intro hq2 hc0))
    have HI := Lib.hid (isTuple_any wc b1 b2 x y 0 A0 A1 kc0 kc1 p0 p1 hq1 hq2 ⟨by decide, by decide⟩ (Nat.le_trans HXL.out (by decide)))
    rw [hT] at HI
    clear hq1 hq2 hbq hc0
    go_wp2_with (first
      | (go_at_call 80; (with_reducible refine HI.out.mono ?_); rintro e1 w1 ⟨rfl, hb1⟩; have c0 : w1.cell? ⟨w.heap.size, 0, none⟩ = some (.pointer (some ⟨mb, 0, none⟩)) := (by rw [Lib.cell_of_heap ((hb1.block _ (lt_of_heap HQ.out.2.2)).trans HQ.out.2.2)]; rfl); have HB1 := Lib.hid (below_then HBW.out hb1); clear hb1)
      | (go_at_call 40; (with_reducible refine (HS.out _ HB1.out).mono ?_); rintro e1 w2 ⟨rfl, hp⟩; have HP := Lib.hid hp; clear hp))
    go_returns
    with_reducible exact ⟨rfl, HP.out.mono (HBM.out _ HB1.out).1 (HBM.out _ HB1.out).2⟩
set_option maxRecDepth 100000 in
set_option maxHeartbeats 16000000 in
theorem inSelT (h : Rep w0 B mb s w t i r v f0 nx nm rcs vcs fcs) (hv : s.vals.length ≤ 100000000000) (x y : Val) (css : List (List Value)) (ab ao c : Nat) (hl : Vs w0 w (Mv mb t r v f0) [x, y] (some ⟨ab, ao, none⟩) css) (hx : x.l.length ≤ 90000000000) (hT : isTup x y 0 = true) :
    Calls Tryz.prog 61 #[.agg #[.pointer (some ⟨mb, 0, none⟩)], .int .i64 9, .slice (some ⟨ab, ao, none⟩) 2 c] w fun e1 w' => e1 = .returned (.tuple #[]) ∧ Post w0 B mb (Mv mb t r v f0) w (s.inTup 9 x y x) w' := by
  have hb : Below w.heap.size w (w.alloc (boxM mb)) := (Below.refl _ _).alloc (Nat.le_refl _) _
  obtain ⟨A0, kc0, p0, hz0, g00, g01, g02, g03, g04, g05⟩ := (hl.below hb).six 0 (z := x) rfl (ao) (ao + 1) (ao + 2) (ao + 3) (ao + 4) (ao + 5) ⟨by omega, by omega, by omega, by omega, by omega, by omega⟩
  obtain ⟨A1, kc1, p1, hz1, g10, g11, g12, g13, g14, g15⟩ := (hl.below hb).six 1 (z := y) rfl (ao + 6) (ao + 6 + 1) (ao + 6 + 2) (ao + 6 + 3) (ao + 6 + 4) (ao + 6 + 5) ⟨by omega, by omega, by omega, by omega, by omega, by omega⟩
  have HSK := Lib.hid (fun (V : World) (hb' : Below (w.alloc (boxM mb)).heap.size (w.alloc (boxM mb)) V) => (show V.cell? ⟨ab, ao, none⟩ = some (.int .i64 x.sort) ∧ V.cell? ⟨ab, ao + 1, none⟩ = some (.int .i64 x.n) ∧ V.cell? ⟨ab, ao + 2, none⟩ = some (.string (bstr x.s)) ∧ V.cell? ⟨ab, ao + 3, none⟩ = some (.slice none 0 0) ∧ V.cell? ⟨ab, ao + 4, none⟩ = some (.slice A0 x.l.length kc0) ∧ V.cell? ⟨ab, ao + 5, none⟩ = some (.pointer p0) ∧ V.cell? ⟨ab, ao + 6, none⟩ = some (.int .i64 y.sort) ∧ V.cell? ⟨ab, ao + 6 + 1, none⟩ = some (.int .i64 y.n) ∧ V.cell? ⟨ab, ao + 6 + 2, none⟩ = some (.string (bstr y.s)) ∧ V.cell? ⟨ab, ao + 6 + 3, none⟩ = some (.slice none 0 0) ∧ V.cell? ⟨ab, ao + 6 + 4, none⟩ = some (.slice A1 y.l.length kc1) ∧ V.cell? ⟨ab, ao + 6 + 5, none⟩ = some (.pointer p1) from ⟨cell_below hb' g00, cell_below hb' g01, cell_below hb' g02, cell_below hb' g03, cell_below hb' g04, cell_below hb' g05, cell_below hb' g10, cell_below hb' g11, cell_below hb' g12, cell_below hb' g13, cell_below hb' g14, cell_below hb' g15⟩))
  clear g00 g01 g02 g03 g04 g05 g10 g11 g12 g13 g14 g15
  have HX0 := Lib.hid (heap_new (w := w) (o := boxM mb) rfl)
  have HZ0 := Lib.hid hz0
  have HZ1 := Lib.hid hz1
  have HB := Lib.hid hb
  have HH := Lib.hid h
  have HV := Lib.hid hv
  have HXL := Lib.hid hx
  have HT1 := Lib.hid (two_new (w.alloc (boxM mb)) (w.heap.size + 1) (World.size_alloc _ _) (boxV x A0 kc0 p0) (boxV y A1 kc1 p1))
  have HT2 := Lib.hid (two_new (w.alloc (boxM mb)) (w.heap.size + 1) (World.size_alloc _ _) (boxV y A1 kc1 p1) (boxV x A0 kc0 p0))
  have HBM := Lib.hid (fun (wr : World) (hb : Below w.heap.size w wr) => And.intro (Tr.below (P := Mv mb t r v f0) hb) (hb.mono (Nat.le_of_lt (Nat.lt_of_le_of_lt h.base.2 h.lt))))
  obtain ⟨ht4, ht1, k, hyn, hk⟩ := isTup_iff hT
  have hk' : k < x.l.length := by omega
  obtain ⟨csx, hvx, hcx, hpx⟩ := hz0.vs
  obtain ⟨fb, fo, hA0⟩ := hvx.addr (by omega)
  subst hA0
  have hkk := List.getElem?_eq_getElem hk'
  have HE : s.inTup 9 x y x = { s with vals := s.vals ++ [x.l[k]] } := by unfold St.inTup; rw [show (if (9 : Int) = 10 then (1 : Int) else 0) = 0 from rfl, hT, if_pos rfl, if_pos rfl, hyn, Int.toNat_natCast, hkk, Option.getD_some]
  rw [HE]
  obtain ⟨z, hz⟩ : ∃ z, x.l[k] = z := ⟨_, rfl⟩
  rw [hz] at hkk ⊢
  have HTL := Lib.hid (fun (wr : World) (hb : Below w.heap.size w wr) (A : Option Addr) (c : Nat) (p : Option Addr) hz => tell_any (h.below hb) hv z (A := A) (c := c) (p := p) hz)
  obtain ⟨Az, cz, pz, hvz, e0, e1, e2, e3, e4, e5⟩ := hvx.six k hkk (fo + k * 6) (fo + k * 6 + 1) (fo + k * 6 + 2) (fo + k * 6 + 3) (fo + k * 6 + 4) (fo + k * 6 + 5) ⟨rfl, rfl, rfl, rfl, rfl, rfl⟩
  have HEL := Lib.hid (fun (wr : World) (hb' : Below (w.alloc (boxM mb)).heap.size (w.alloc (boxM mb)) wr) => And.intro (cell_below hb' e0) (And.intro (cell_below hb' e1) (And.intro (cell_below hb' e2) (And.intro (cell_below hb' e3) (And.intro (cell_below hb' e4) (cell_below hb' e5))))))
  have HVZ := Lib.hid (fun (wr : World) (hb' : Below (w.alloc (boxM mb)).heap.size (w.alloc (boxM mb)) wr) => hvz.keep (Tr.below hb'))
  have HN := Lib.hid (And.intro hyn (And.intro hk' hx))
  clear HE h hb hl hv hx hz0 hz1 hz hkk hvx e0 e1 e2 e3 e4 e5 hvz hk hk' hyn ht4 ht1 hcx hpx
  go_enter Tryz.func61, Tryz.ntmps61
  go_upto_region 1 with fail
  go_cut [6, 7, 8] (fun u6 u7 u8 wx => ∃ b1 b2 : Nat, u6 = .pointer (some ⟨b1, 0, none⟩) ∧ u7 = .pointer (some ⟨b2, 0, none⟩) ∧ u8 = .int .i64 0 ∧ w.heap.size < b1 ∧ w.heap.size < b2 ∧ b1 ≠ b2 ∧ wx.heap[b1]? = some (boxV x (some ⟨fb, fo, none⟩) kc0 p0) ∧ wx.heap[b2]? = some (boxV y A1 kc1 p1) ∧ Below (w.alloc (boxM mb)).heap.size (w.alloc (boxM mb)) wx)
  case first =>
    go_region_held3 (fun V => V.cell? ⟨ab, ao, none⟩ = some (.int .i64 x.sort) ∧ V.cell? ⟨ab, ao + 1, none⟩ = some (.int .i64 x.n) ∧ V.cell? ⟨ab, ao + 2, none⟩ = some (.string (bstr x.s)) ∧ V.cell? ⟨ab, ao + 3, none⟩ = some (.slice none 0 0) ∧ V.cell? ⟨ab, ao + 4, none⟩ = some (.slice (some ⟨fb, fo, none⟩) x.l.length kc0) ∧ V.cell? ⟨ab, ao + 5, none⟩ = some (.pointer p0) ∧ V.cell? ⟨ab, ao + 6, none⟩ = some (.int .i64 y.sort) ∧ V.cell? ⟨ab, ao + 6 + 1, none⟩ = some (.int .i64 y.n) ∧ V.cell? ⟨ab, ao + 6 + 2, none⟩ = some (.string (bstr y.s)) ∧ V.cell? ⟨ab, ao + 6 + 3, none⟩ = some (.slice none 0 0) ∧ V.cell? ⟨ab, ao + 6 + 4, none⟩ = some (.slice A1 y.l.length kc1) ∧ V.cell? ⟨ab, ao + 6 + 5, none⟩ = some (.pointer p1))
      (with_reducible exact HSK.out _ (by go_grown))
      (first | fail)
    all_goals
      clear HSK
      go_wp2_with fail
      go_meet
      first
        | exact ⟨w.heap.size + 1, w.heap.size + 2, rfl, rfl, rfl, by omega, by omega, by omega, HT1.out⟩
        | exact ⟨w.heap.size + 2, w.heap.size + 1, rfl, rfl, rfl, by omega, by omega, by omega, HT2.out.2.1, HT2.out.1, HT2.out.2.2⟩
  case rest =>
    obtain ⟨b1, b2, rfl, rfl, rfl, hb1g, hb2g, hb12, hq1, hq2, hbq⟩ := hcut
    clear HT1 HT2 HSK
    have HBW := Lib.hid (below_then HB.out hbq)
    have hc0 : wc.heap[w.heap.size]? = some (boxM mb) := (hbq.block _ (lt_of_heap HX0.out)).trans HX0.out
    have HQ := Lib.hid (And.intro hq1 (And.intro hq2 hc0))
    have HI := Lib.hid (isTuple_any wc b1 b2 x y 0 (some ⟨fb, fo, none⟩) A1 kc0 kc1 p0 p1 hq1 hq2 ⟨by decide, by decide⟩ (Nat.le_trans HXL.out (by decide)))
    rw [hT] at HI
    have HBQ := Lib.hid hbq
    clear hq1 hq2 hbq hc0
    have n0 : (0 : Int) ≤ (k : Int) := by omega
    have n1 : (k : Int) < (x.l.length : Int) := by have := HN.out.2.1; omega
    have n2 : (x.l.length : Int) ≤ 100000000000 := by have := HN.out.2.2; omega
    go_upto_region 11 with (go_at_call 80; (with_reducible refine HI.out.mono ?_); rintro e1 w1 ⟨rfl, hb1⟩; have c0 : w1.cell? ⟨w.heap.size, 0, none⟩ = some (.pointer (some ⟨mb, 0, none⟩)) := (by rw [Lib.cell_of_heap ((hb1.block _ (lt_of_heap HQ.out.2.2)).trans HQ.out.2.2)]; rfl); obtain ⟨y0, y1, y2, y3, y4, y5⟩ := cells6 ((hb1.block _ (lt_of_heap HQ.out.1)).trans HQ.out.1); obtain ⟨x0, x1, x2, x3, x4, x5⟩ := cells6 ((hb1.block _ (lt_of_heap HQ.out.2.1)).trans HQ.out.2.1); rw [HN.out.1] at x1; have hbw := below_then HBQ.out hb1; obtain ⟨e0, e1, e2, e3, e4, e5⟩ := HEL.out _ hbw; have HB1 := Lib.hid (below_then HBW.out hb1); have HT := Lib.hid (HTL.out _ (Below.drew (below_then HBW.out hb1)) _ _ _ (HVZ.out _ (Below.drew hbw))); clear hb1 hbw)
    go_region_law (go_simp; go_at_call 41; (with_reducible refine HT.out.mono ?_); rintro e1 w2 ⟨rfl, hp⟩; have HP := Lib.hid hp; clear hp)
    all_goals
      go_wp2_with fail
      go_returns
      with_reducible exact ⟨rfl, HP.out.mono (HBM.out _ (Below.drew HB1.out)).1 (HBM.out _ (Below.drew HB1.out)).2⟩
set_option maxRecDepth 100000 in
set_option maxHeartbeats 16000000 in
theorem inDelF (h : Rep w0 B mb s w t i r v f0 nx nm rcs vcs fcs) (hv : s.vals.length ≤ 100000000000) (x y : Val) (css : List (List Value)) (ab ao c : Nat) (hl : Vs w0 w (Mv mb t r v f0) [x, y] (some ⟨ab, ao, none⟩) css) (hx : x.l.length ≤ 90000000000) (hT : isTup x y 0 = false) :
    Calls Tryz.prog 61 #[.agg #[.pointer (some ⟨mb, 0, none⟩)], .int .i64 11, .slice (some ⟨ab, ao, none⟩) 2 c] w fun e1 w' => e1 = .returned (.tuple #[]) ∧ Post w0 B mb (Mv mb t r v f0) w (s.inTup 11 x y x) w' := by
  have hb : Below w.heap.size w (w.alloc (boxM mb)) := (Below.refl _ _).alloc (Nat.le_refl _) _
  obtain ⟨A0, kc0, p0, hz0, g00, g01, g02, g03, g04, g05⟩ := (hl.below hb).six 0 (z := x) rfl (ao) (ao + 1) (ao + 2) (ao + 3) (ao + 4) (ao + 5) ⟨by omega, by omega, by omega, by omega, by omega, by omega⟩
  obtain ⟨A1, kc1, p1, hz1, g10, g11, g12, g13, g14, g15⟩ := (hl.below hb).six 1 (z := y) rfl (ao + 6) (ao + 6 + 1) (ao + 6 + 2) (ao + 6 + 3) (ao + 6 + 4) (ao + 6 + 5) ⟨by omega, by omega, by omega, by omega, by omega, by omega⟩
  have HSK := Lib.hid (fun (V : World) (hb' : Below (w.alloc (boxM mb)).heap.size (w.alloc (boxM mb)) V) => (show V.cell? ⟨ab, ao, none⟩ = some (.int .i64 x.sort) ∧ V.cell? ⟨ab, ao + 1, none⟩ = some (.int .i64 x.n) ∧ V.cell? ⟨ab, ao + 2, none⟩ = some (.string (bstr x.s)) ∧ V.cell? ⟨ab, ao + 3, none⟩ = some (.slice none 0 0) ∧ V.cell? ⟨ab, ao + 4, none⟩ = some (.slice A0 x.l.length kc0) ∧ V.cell? ⟨ab, ao + 5, none⟩ = some (.pointer p0) ∧ V.cell? ⟨ab, ao + 6, none⟩ = some (.int .i64 y.sort) ∧ V.cell? ⟨ab, ao + 6 + 1, none⟩ = some (.int .i64 y.n) ∧ V.cell? ⟨ab, ao + 6 + 2, none⟩ = some (.string (bstr y.s)) ∧ V.cell? ⟨ab, ao + 6 + 3, none⟩ = some (.slice none 0 0) ∧ V.cell? ⟨ab, ao + 6 + 4, none⟩ = some (.slice A1 y.l.length kc1) ∧ V.cell? ⟨ab, ao + 6 + 5, none⟩ = some (.pointer p1) from ⟨cell_below hb' g00, cell_below hb' g01, cell_below hb' g02, cell_below hb' g03, cell_below hb' g04, cell_below hb' g05, cell_below hb' g10, cell_below hb' g11, cell_below hb' g12, cell_below hb' g13, cell_below hb' g14, cell_below hb' g15⟩))
  clear g00 g01 g02 g03 g04 g05 g10 g11 g12 g13 g14 g15
  have HX0 := Lib.hid (heap_new (w := w) (o := boxM mb) rfl)
  have HZ0 := Lib.hid hz0
  have HZ1 := Lib.hid hz1
  have HB := Lib.hid hb
  have HH := Lib.hid h
  have HV := Lib.hid hv
  have HXL := Lib.hid hx
  have HT1 := Lib.hid (two_new (w.alloc (boxM mb)) (w.heap.size + 1) (World.size_alloc _ _) (boxV x A0 kc0 p0) (boxV y A1 kc1 p1))
  have HT2 := Lib.hid (two_new (w.alloc (boxM mb)) (w.heap.size + 1) (World.size_alloc _ _) (boxV y A1 kc1 p1) (boxV x A0 kc0 p0))
  have HBM := Lib.hid (fun (wr : World) (hb : Below w.heap.size w wr) => And.intro (Tr.below (P := Mv mb t r v f0) hb) (hb.mono (Nat.le_of_lt (Nat.lt_of_le_of_lt h.base.2 h.lt))))
  have HS := Lib.hid (fun (wr : World) (hb : Below w.heap.size w wr) => stuck_any (h.below hb))
  have HE : s.inTup 11 x y x = { s with err := 11 } := by unfold St.inTup; rw [show (if (11 : Int) = 10 then (1 : Int) else 0) = 0 from rfl, hT, if_neg (by decide)]
  rw [HE]
  clear HE h hb hl hv hx hz0 hz1
  go_enter Tryz.func61, Tryz.ntmps61
  go_upto_region 1 with fail
  go_cut [6, 7, 8] (fun u6 u7 u8 wx => ∃ b1 b2 : Nat, u6 = .pointer (some ⟨b1, 0, none⟩) ∧ u7 = .pointer (some ⟨b2, 0, none⟩) ∧ u8 = .int .i64 0 ∧ w.heap.size < b1 ∧ w.heap.size < b2 ∧ b1 ≠ b2 ∧ wx.heap[b1]? = some (boxV x A0 kc0 p0) ∧ wx.heap[b2]? = some (boxV y A1 kc1 p1) ∧ Below (w.alloc (boxM mb)).heap.size (w.alloc (boxM mb)) wx)
  case first =>
    go_region_held3 (fun V => V.cell? ⟨ab, ao, none⟩ = some (.int .i64 x.sort) ∧ V.cell? ⟨ab, ao + 1, none⟩ = some (.int .i64 x.n) ∧ V.cell? ⟨ab, ao + 2, none⟩ = some (.string (bstr x.s)) ∧ V.cell? ⟨ab, ao + 3, none⟩ = some (.slice none 0 0) ∧ V.cell? ⟨ab, ao + 4, none⟩ = some (.slice A0 x.l.length kc0) ∧ V.cell? ⟨ab, ao + 5, none⟩ = some (.pointer p0) ∧ V.cell? ⟨ab, ao + 6, none⟩ = some (.int .i64 y.sort) ∧ V.cell? ⟨ab, ao + 6 + 1, none⟩ = some (.int .i64 y.n) ∧ V.cell? ⟨ab, ao + 6 + 2, none⟩ = some (.string (bstr y.s)) ∧ V.cell? ⟨ab, ao + 6 + 3, none⟩ = some (.slice none 0 0) ∧ V.cell? ⟨ab, ao + 6 + 4, none⟩ = some (.slice A1 y.l.length kc1) ∧ V.cell? ⟨ab, ao + 6 + 5, none⟩ = some (.pointer p1))
      (with_reducible exact HSK.out _ (by go_grown))
      (first | fail)
    all_goals
      clear HSK
      go_wp2_with fail
      go_meet
      first
        | exact ⟨w.heap.size + 1, w.heap.size + 2, rfl, rfl, rfl, by omega, by omega, by omega, HT1.out⟩
        | exact ⟨w.heap.size + 2, w.heap.size + 1, rfl, rfl, rfl, by omega, by omega, by omega, HT2.out.2.1, HT2.out.1, HT2.out.2.2⟩
  case rest =>
    obtain ⟨b1, b2, rfl, rfl, rfl, hb1g, hb2g, hb12, hq1, hq2, hbq⟩ := hcut
    clear HT1 HT2 HSK
    have HBW := Lib.hid (below_then HB.out hbq)
    have hc0 : wc.heap[w.heap.size]? = some (boxM mb) := (hbq.block _ (lt_of_heap HX0.out)).trans HX0.out
    have HQ := Lib.hid (And.intro hq1 (And.intro hq2 hc0))
    have HI := Lib.hid (isTuple_any wc b1 b2 x y 0 A0 A1 kc0 kc1 p0 p1 hq1 hq2 ⟨by decide, by decide⟩ (Nat.le_trans HXL.out (by decide)))
    rw [hT] at HI
    clear hq1 hq2 hbq hc0
    go_wp2_with (first
      | (go_at_call 80; (with_reducible refine HI.out.mono ?_); rintro e1 w1 ⟨rfl, hb1⟩; have c0 : w1.cell? ⟨w.heap.size, 0, none⟩ = some (.pointer (some ⟨mb, 0, none⟩)) := (by rw [Lib.cell_of_heap ((hb1.block _ (lt_of_heap HQ.out.2.2)).trans HQ.out.2.2)]; rfl); have HB1 := Lib.hid (below_then HBW.out hb1); clear hb1)
      | (go_at_call 40; (with_reducible refine (HS.out _ HB1.out).mono ?_); rintro e1 w2 ⟨rfl, hp⟩; have HP := Lib.hid hp; clear hp))
    go_returns
    with_reducible exact ⟨rfl, HP.out.mono (HBM.out _ HB1.out).1 (HBM.out _ HB1.out).2⟩
set_option maxRecDepth 100000 in
set_option maxHeartbeats 16000000 in
theorem inDelT (h : Rep w0 B mb s w t i r v f0 nx nm rcs vcs fcs) (hv : s.vals.length ≤ 100000000000) (x y : Val) (css : List (List Value)) (ab ao c : Nat) (hl : Vs w0 w (Mv mb t r v f0) [x, y] (some ⟨ab, ao, none⟩) css) (hx : x.l.length ≤ 90000000000) (hT : isTup x y 0 = true) :
    Calls Tryz.prog 61 #[.agg #[.pointer (some ⟨mb, 0, none⟩)], .int .i64 11, .slice (some ⟨ab, ao, none⟩) 2 c] w fun e1 w' => e1 = .returned (.tuple #[]) ∧ Post w0 B mb (Mv mb t r v f0) w (s.inTup 11 x y x) w' := by
  have hb : Below w.heap.size w (w.alloc (boxM mb)) := (Below.refl _ _).alloc (Nat.le_refl _) _
  obtain ⟨A0, kc0, p0, hz0, g00, g01, g02, g03, g04, g05⟩ := (hl.below hb).six 0 (z := x) rfl (ao) (ao + 1) (ao + 2) (ao + 3) (ao + 4) (ao + 5) ⟨by omega, by omega, by omega, by omega, by omega, by omega⟩
  obtain ⟨A1, kc1, p1, hz1, g10, g11, g12, g13, g14, g15⟩ := (hl.below hb).six 1 (z := y) rfl (ao + 6) (ao + 6 + 1) (ao + 6 + 2) (ao + 6 + 3) (ao + 6 + 4) (ao + 6 + 5) ⟨by omega, by omega, by omega, by omega, by omega, by omega⟩
  have HSK := Lib.hid (fun (V : World) (hb' : Below (w.alloc (boxM mb)).heap.size (w.alloc (boxM mb)) V) => (show V.cell? ⟨ab, ao, none⟩ = some (.int .i64 x.sort) ∧ V.cell? ⟨ab, ao + 1, none⟩ = some (.int .i64 x.n) ∧ V.cell? ⟨ab, ao + 2, none⟩ = some (.string (bstr x.s)) ∧ V.cell? ⟨ab, ao + 3, none⟩ = some (.slice none 0 0) ∧ V.cell? ⟨ab, ao + 4, none⟩ = some (.slice A0 x.l.length kc0) ∧ V.cell? ⟨ab, ao + 5, none⟩ = some (.pointer p0) ∧ V.cell? ⟨ab, ao + 6, none⟩ = some (.int .i64 y.sort) ∧ V.cell? ⟨ab, ao + 6 + 1, none⟩ = some (.int .i64 y.n) ∧ V.cell? ⟨ab, ao + 6 + 2, none⟩ = some (.string (bstr y.s)) ∧ V.cell? ⟨ab, ao + 6 + 3, none⟩ = some (.slice none 0 0) ∧ V.cell? ⟨ab, ao + 6 + 4, none⟩ = some (.slice A1 y.l.length kc1) ∧ V.cell? ⟨ab, ao + 6 + 5, none⟩ = some (.pointer p1) from ⟨cell_below hb' g00, cell_below hb' g01, cell_below hb' g02, cell_below hb' g03, cell_below hb' g04, cell_below hb' g05, cell_below hb' g10, cell_below hb' g11, cell_below hb' g12, cell_below hb' g13, cell_below hb' g14, cell_below hb' g15⟩))
  clear g00 g01 g02 g03 g04 g05 g10 g11 g12 g13 g14 g15
  have HX0 := Lib.hid (heap_new (w := w) (o := boxM mb) rfl)
  have HZ0 := Lib.hid hz0
  have HZ1 := Lib.hid hz1
  have HB := Lib.hid hb
  have HH := Lib.hid h
  have HV := Lib.hid hv
  have HXL := Lib.hid hx
  have HT1 := Lib.hid (two_new (w.alloc (boxM mb)) (w.heap.size + 1) (World.size_alloc _ _) (boxV x A0 kc0 p0) (boxV y A1 kc1 p1))
  have HT2 := Lib.hid (two_new (w.alloc (boxM mb)) (w.heap.size + 1) (World.size_alloc _ _) (boxV y A1 kc1 p1) (boxV x A0 kc0 p0))
  have HBM := Lib.hid (fun (wr : World) (hb : Below w.heap.size w wr) => And.intro (Tr.below (P := Mv mb t r v f0) hb) (hb.mono (Nat.le_of_lt (Nat.lt_of_le_of_lt h.base.2 h.lt))))
  obtain ⟨ht4, ht1, k, hyn, hk⟩ := isTup_iff hT
  have hk' : k < x.l.length := by omega
  obtain ⟨csx, hvx, hcx, hpx⟩ := hz0.vs
  obtain ⟨a, rfl⟩ : ∃ a, A0 = some a := by
    obtain ⟨fb, fo, e⟩ := hvx.addr (by omega)
    exact ⟨_, e⟩
  have hkl : k ≤ x.l.length := by omega
  have hd3 := hvx.dropC (k + 1) (by omega) kc0 (by omega)
  obtain ⟨A3, hA3⟩ : ∃ A3, (if kc0 = k + 1 then some a else some (a.add ((k + 1) * 6))) = A3 := ⟨_, rfl⟩
  rw [hA3] at hd3
  have HE : s.inTup 11 x y x = { s with vals := s.vals ++ [.mk 4 0 [] (tupOf 11 x x k) none] } := by unfold St.inTup; rw [show (if (11 : Int) = 10 then (1 : Int) else 0) = 0 from rfl, hT, if_pos rfl, if_neg (by decide), hyn, Int.toNat_natCast]
  rw [HE]
  have hrl : (([⟨some a, x.l.take k, kc0, csx.take k⟩, ⟨A3, x.l.drop (k + 1), kc0 - (k + 1), csx.drop (k + 1)⟩] : List Rw).flatMap Rw.l) = tupOf 11 x x k := by simp [tupOf]
  obtain ⟨L, hL⟩ : ∃ L, tupOf 11 x x k = L := ⟨_, rfl⟩
  rw [hL] at hrl ⊢
  have hLl : L.length ≤ 100000000000 := by rw [← hrl]; simp; omega
  have hrows : ∀ q ∈ ([⟨some a, x.l.take k, kc0, csx.take k⟩, ⟨A3, x.l.drop (k + 1), kc0 - (k + 1), csx.drop (k + 1)⟩] : List Rw), Vs w0 (w.alloc (boxM mb)) (Mv mb t r v f0) q.l q.A q.css := by
    intro q hr
    simp only [List.mem_cons, List.not_mem_nil, or_false] at hr
    rcases hr with rfl | rfl
    · exact hvx.take k hkl
    · exact hd3
  have HCC := Lib.hid (fun (wr : World) (g : Nat) (hb' : Below (w.alloc (boxM mb)).heap.size (w.alloc (boxM mb)) wr) (hR : Rd wr 1 (some ⟨g, 0, none⟩) 2 [.slice (some a) k kc0, .slice A3 (x.l.length - (k + 1)) (kc0 - (k + 1))]) => (show Calls Tryz.prog 81 #[.slice (some ⟨g, 0, none⟩) 2 2] wr fun e w' => ∃ A' c' css', e = .returned (.slice A' L.length c') ∧ Vs w0 w' (Mv mb t r v f0) L A' css' ∧ Below wr.heap.size wr w' from
    (vconcat_any w0 wr (Mv mb t r v f0) [⟨some a, x.l.take k, kc0, csx.take k⟩, ⟨A3, x.l.drop (k + 1), kc0 - (k + 1), csx.drop (k + 1)⟩] (some ⟨g, 0, none⟩) 2 (by simpa [Rw.cell, hkl] using hR) (fun q hr => (hrows q hr).below hb') (by rw [hrl]; omega) (by simp)).mono fun e w' ⟨A', c', h1, h2, h3⟩ => ⟨A', c', _, by rw [← hrl]; exact h1, by rw [← hrl]; exact h2, h3⟩))
  have HTU := Lib.hid (fun (wr : World) (A' : Option Addr) (c' : Nat) (css' : List (List Value)) (hb' : Below w.heap.size w wr) (hV : Vs w0 wr (Mv mb t r v f0) L A' css') => tuple_any w0 wr (Mv mb t r v f0) (fun b hbb => h.mvNew b (Nat.le_trans hb'.size hbb)) A' L css' c' hV hLl)
  have HTL := Lib.hid (fun (wr : World) (A' : Option Addr) (c' : Nat) (hb' : Below w.heap.size w wr) (hz : VR w0 wr (Mv mb t r v f0) (.mk 4 0 [] L none) [.int .i64 4, .int .i64 0, .string (bstr []), .slice none 0 0, .slice A' L.length c', .pointer none]) => (show Calls Tryz.prog 41 #[.pointer (some ⟨mb, 0, none⟩), .agg #[.int .i64 4, .int .i64 0, .string ⟨#[]⟩, .slice none 0 0, .slice A' L.length c', .pointer none]] wr fun e w' => e = .returned (.tuple #[]) ∧ Post w0 B mb (Mv mb t r v f0) wr { s with vals := s.vals ++ [.mk 4 0 [] L none] } w' from tell_any (h.below hb') hv (.mk 4 0 [] L none) (A := A') (c := c') (p := none) hz))
  have HN := Lib.hid (And.intro hyn (And.intro hk' (And.intro hx hcx)))
  have HKP := Lib.hid (fun (wr w3 : World) (s' : St) (b : Nat) (u0 u2 : Value) (hb' : Below w.heap.size w wr) (hbl : w.heap.size ≤ b) (hS : wr.cell? ⟨w.heap.size, 0, none⟩ = some u0 ∧ wr.cell? ⟨b, 4, none⟩ = some u2) (hp : Post w0 B mb (Mv mb t r v f0) wr s' w3) => keep2 h hbl hS hp)
  clear HE h hb hl hv hx hz0 hz1 hkl hrl hL hLl hrows hvx hd3 hk hk' hyn ht4 ht1 hcx hpx
  go_enter Tryz.func61, Tryz.ntmps61
  go_upto_region 1 with fail
  go_cut [6, 7, 8] (fun u6 u7 u8 wx => ∃ b1 b2 : Nat, u6 = .pointer (some ⟨b1, 0, none⟩) ∧ u7 = .pointer (some ⟨b2, 0, none⟩) ∧ u8 = .int .i64 0 ∧ w.heap.size < b1 ∧ w.heap.size < b2 ∧ b1 ≠ b2 ∧ wx.heap[b1]? = some (boxV x (some a) kc0 p0) ∧ wx.heap[b2]? = some (boxV y A1 kc1 p1) ∧ Below (w.alloc (boxM mb)).heap.size (w.alloc (boxM mb)) wx)
  case first =>
    go_region_held3 (fun V => V.cell? ⟨ab, ao, none⟩ = some (.int .i64 x.sort) ∧ V.cell? ⟨ab, ao + 1, none⟩ = some (.int .i64 x.n) ∧ V.cell? ⟨ab, ao + 2, none⟩ = some (.string (bstr x.s)) ∧ V.cell? ⟨ab, ao + 3, none⟩ = some (.slice none 0 0) ∧ V.cell? ⟨ab, ao + 4, none⟩ = some (.slice (some a) x.l.length kc0) ∧ V.cell? ⟨ab, ao + 5, none⟩ = some (.pointer p0) ∧ V.cell? ⟨ab, ao + 6, none⟩ = some (.int .i64 y.sort) ∧ V.cell? ⟨ab, ao + 6 + 1, none⟩ = some (.int .i64 y.n) ∧ V.cell? ⟨ab, ao + 6 + 2, none⟩ = some (.string (bstr y.s)) ∧ V.cell? ⟨ab, ao + 6 + 3, none⟩ = some (.slice none 0 0) ∧ V.cell? ⟨ab, ao + 6 + 4, none⟩ = some (.slice A1 y.l.length kc1) ∧ V.cell? ⟨ab, ao + 6 + 5, none⟩ = some (.pointer p1))
      (with_reducible exact HSK.out _ (by go_grown))
      (first | fail)
    all_goals
      clear HSK
      go_wp2_with fail
      go_meet
      first
        | exact ⟨w.heap.size + 1, w.heap.size + 2, rfl, rfl, rfl, by omega, by omega, by omega, HT1.out⟩
        | exact ⟨w.heap.size + 2, w.heap.size + 1, rfl, rfl, rfl, by omega, by omega, by omega, HT2.out.2.1, HT2.out.1, HT2.out.2.2⟩
  case rest =>
    obtain ⟨b1, b2, rfl, rfl, rfl, hb1g, hb2g, hb12, hq1, hq2, hbq⟩ := hcut
    clear HT1 HT2 HSK
    have HBW := Lib.hid (below_then HB.out hbq)
    have hc0 : wc.heap[w.heap.size]? = some (boxM mb) := (hbq.block _ (lt_of_heap HX0.out)).trans HX0.out
    have HQ := Lib.hid (And.intro hq1 (And.intro hq2 hc0))
    have HI := Lib.hid (isTuple_any wc b1 b2 x y 0 (some a) A1 kc0 kc1 p0 p1 hq1 hq2 ⟨by decide, by decide⟩ (Nat.le_trans HXL.out (by decide)))
    rw [hT] at HI
    have HBQ := Lib.hid hbq
    clear hq1 hq2 hbq hc0
    have n0 : (0 : Int) ≤ (k : Int) := by omega
    have n1 : (k : Int) < (x.l.length : Int) := by have := HN.out.2.1; omega
    have n2 : (x.l.length : Int) ≤ 100000000000 := by have := HN.out.2.2.1; omega
    have n3 : (x.l.length : Int) ≤ (kc0 : Int) := by have := HN.out.2.2.2.1; omega
    have n4 : (k : Int) ≤ (kc0 : Int) := by omega
    have n7 : (kc0 : Int) ≤ 9223372036854775807 := by have := HN.out.2.2.2.2; simp only [maxLen] at this; omega
    have n5 : (k : Int) + 1 ≤ (x.l.length : Int) := by omega
    have n6 : (0 : Int) ≤ (k : Int) + 1 := by omega
    have n8 : IntKind.i64.wrap ((k : Int) + 1) = (k : Int) + 1 := by rw [IntKind.wrap_i64]; omega
    have n9 : (k : Int) + 1 ≤ (kc0 : Int) := by omega
    go_upto_region 13 with (go_at_call 80; (with_reducible refine HI.out.mono ?_); rintro e1 w1 ⟨rfl, hb1⟩; obtain ⟨x0, x1, x2, x3, x4, x5⟩ := cells6 ((hb1.block _ (lt_of_heap HQ.out.2.1)).trans HQ.out.2.1); rw [HN.out.1] at x1; have HB1 := Lib.hid (below_then HBQ.out hb1); have HB0 := Lib.hid (below_then HBW.out hb1); have HS1 := Lib.hid (fun (V : World) (hb' : Below w1.heap.size w1 V) => (show V.cell? ⟨w.heap.size, 0, none⟩ = some (.pointer (some ⟨mb, 0, none⟩)) ∧ V.cell? ⟨b1, 4, none⟩ = some (.slice (some a) x.l.length kc0) from ⟨cell_below hb' (by rw [Lib.cell_of_heap ((hb1.block _ (lt_of_heap HQ.out.2.2)).trans HQ.out.2.2)]; rfl), cell_below hb' (by rw [Lib.cell_of_heap ((hb1.block _ (lt_of_heap HQ.out.1)).trans HQ.out.1)]; rfl)⟩)); clear hb1)
    clear x0 x1 x2 x3 x4 x5
    have HB1G := Lib.hid hb1g
    clear hb1g hb2g hb12
    go_region_held3 (fun V => V.cell? ⟨w.heap.size, 0, none⟩ = some (.pointer (some ⟨mb, 0, none⟩)) ∧ V.cell? ⟨b1, 4, none⟩ = some (.slice (some a) x.l.length kc0))
      (first | with_reducible exact HS2.out | with_reducible exact HS3.out | with_reducible exact HS4.out | with_reducible exact HS1.out _ (by go_grown) | fail)
      (first
      | (go_at_call 81; have hbw := (show Below w1.heap.size w1 ((w1.alloc (.cells #[.slice (some a) k kc0, .slice A3 (x.l.length - (k + 1)) (kc0 - (k + 1))] 57)).drew) from ((Below.refl _ _).alloc (Nat.le_refl _) _).drew); (with_reducible refine (HCC.out _ w1.heap.size (below_then HB1.out hbw) (Rd.drew (Rd.lit w1 #[.slice (some a) k kc0, .slice A3 (x.l.length - (k + 1)) (kc0 - (k + 1))] _ (size := 1) (n := 2) rfl))).mono ?_); rintro e1 w2 ⟨A', c', css', rfl, hv2, hb2⟩; have hb3 := below_then hbw hb2; have HS2 := Lib.hid (HS1.out _ hb3); have HV2 := Lib.hid hv2; have HB2 := Lib.hid hb3; clear hbw hb2 hb3 hv2)
      | (go_at_call 59; (with_reducible refine (HTU.out _ _ _ _ (below_then HB0.out HB2.out) HV2.out).mono ?_); rintro e1 w3 ⟨A9, c9, rfl, hv3, hb3⟩; have hb4 := below_then HB2.out hb3; have HS3 := Lib.hid (HS1.out _ hb4); have HV3 := Lib.hid hv3; have HB3 := Lib.hid (below_then HB0.out hb4); clear hb3 hb4 hv3)
      | (go_at_call 41; (with_reducible refine (HTL.out _ _ _ HB3.out HV3.out).mono ?_); rintro e1 w4 ⟨rfl, hp⟩; have HP := Lib.hid hp; have HS4 := Lib.hid (HKP.out _ _ _ _ _ _ HB3.out (Nat.le_of_lt HB1G.out) HS3.out hp); clear hp)
      | fail)
    all_goals
      go_wp2_with fail
      go_returns
      with_reducible exact ⟨rfl, HP.out.mono (HBM.out _ HB3.out).1 (HBM.out _ HB3.out).2⟩
theorem inTwo_any (h : Rep w0 B mb s w t i r v f0 nx nm rcs vcs fcs) (hv : s.vals.length ≤ 100000000000) (kind : Int) (hk : kind = 9 ∨ kind = 11) (x y : Val) (css : List (List Value)) (ab ao c : Nat) (hl : Vs w0 w (Mv mb t r v f0) [x, y] (some ⟨ab, ao, none⟩) css) (hx : x.l.length ≤ 90000000000) :
    Calls Tryz.prog 61 #[.agg #[.pointer (some ⟨mb, 0, none⟩)], .int .i64 kind, .slice (some ⟨ab, ao, none⟩) 2 c] w fun e1 w' => e1 = .returned (.tuple #[]) ∧ Post w0 B mb (Mv mb t r v f0) w (s.inTup kind x y x) w' := by
  rcases hk with rfl | rfl
  · cases hT : isTup x y 0 with
    | false => exact inSelF h hv x y css ab ao c hl hx hT
    | true => exact inSelT h hv x y css ab ao c hl hx hT
  · cases hT : isTup x y 0 with
    | false => exact inDelF h hv x y css ab ao c hl hx hT
    | true => exact inDelT h hv x y css ab ao c hl hx hT
end
end Go.Proofs.YtpdfjdomjklkbaaGreatDoor
