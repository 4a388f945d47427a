/-
  What the writer of types writes, by the code: references, functions, rows.
  A type's variables, by the code: the walk, with two that meet.
  A type's variables, by the code.
  What the writer of types writes, by the code: any type; a type's text.
  A type's text, by the code.
  Arguments that came in, opened under the bound on all that they hold.
  Types whose variables have other numbers: one text. About no program.
-/
import Derived.Test.YtklandpagieapaaDoorK02
import Derived.Lib.UnsafeStr
import Derived.Test.YtklandpagieapaaDoorRows
import Derived.Deep.Slices
import Derived.Deep.Fields
import Derived.Lib.SmallJoins
namespace Go.Proofs.YtklandpagieapaaDoor
open Go.ChangeShapes Go.WideShapes Go.ChangeAt Go.RowKit Go.Sort Go.Maps
set_option linter.unusedVariables false
set_option linter.unusedSimpArgs false

theorem labW_at (l : List Str) (k : Nat) (h : k < l.length) : labW (l.take k) + (l[k].length + 5) ≤ labW l := by
  have h1 := labW_take l (k + 1)
  rw [List.take_succ_eq_append_getElem h, labW_snoc] at h1
  omega
theorem rowTo_at {ls : List Str} (ps : List Str) {k : Nat} (h : k < ls.length) : rowTo ls ps (k + 1) = rowTo ls ps k ++ ((if k = 0 then [] else [44, 32]) ++ (ls[k] ++ [32, 58, 32] ++ ps.getD k [])) := by
  rw [show rowTo ls ps (k + 1) = rowTo ls ps k ++ ((if k = 0 then [] else [44, 32]) ++ (ls.getD k [] ++ [32, 58, 32] ++ ps.getD k [])) from rfl, List.getD_eq_getElem?_getD, List.getElem?_eq_getElem h]
  rfl
/-- A call of 'part' at kinds that are laid for it. -/
theorem part_new (w0 : World) (c : Cx) (d : TyD) (wt : Nat) (tx : Str) (Lx : tx.length + 2 ≤ wt) (HW : FunAt 27 w0 c d wt tx) (ks : List Int) (n : Nat) (hn : ks.length = n) (h10 : n ≤ 10) (cs : Array Value) (T : TypeId) (hcs : (i64s ks).toArray = cs)
    (b b' o' : Nat) (acc : Str) (wS w : World) (hAt : d.At w0 b' o') (hst : St w0 c b acc wS w) (hlen : acc.length + wt + 2 ≤ CAP) :
    Calls Tryd.prog 40 #[.pointer (some ⟨b, 0, none⟩), .pointer (some ⟨b', o', none⟩), .slice (some ⟨w.heap.size, 0, none⟩) n n] (w.alloc (.cells cs T)) fun e w' => e = .returned (.tuple #[]) ∧ St w0 c b (acc ++ brkT (decide (d.kind ∈ ks)) tx) wS w' := by
  subst hcs
  refine part_any w0 c d wt tx Lx HW ks n hn h10 b b' o' w.heap.size acc wS _ hAt (hst.below ((Below.refl _ _).alloc (Nat.le_refl _) _)) ?_ hlen
  have h : Rd (w.alloc (.cells (i64s ks).toArray T)) 1 (some ⟨w.heap.size, 0, none⟩) n (i64s ks).toArray.toList := Rd.lit w (i64s ks).toArray T (by rw [List.size_toArray, i64s_length]; omega)
  simpa using h

set_option maxRecDepth 100000 in
set_option maxHeartbeats 2000000 in
theorem whole_6 (w0 : World) (c : Cx) (d : TyD) (wt : Nat) (hk : d.kind = 6) (x : Ty) (pb po : Nat) (hp : d.pA = some ⟨pb, po, none⟩) (hpn : d.pn = 1) (hx : x.d.At w0 pb po) (HW : WholeAt w0 c x) (Lx : (x.tx c.T c.R).length + 2 ≤ x.wt) (hw : x.wt + 50 ≤ wt) :
    FunAt 27 w0 c d wt ([114, 101, 102, 32] ++ brkT (decide (x.d.kind = 3) || decide (x.d.kind = 6)) (x.tx c.T c.R)) := by
  intro b b' o' acc w hAt hst hlen
  have H0 := Lib.hid hst
  have HE := Lib.hid (fun W (h : Below w0.heap.size w0 W) => hAt.lower h)
  have HLEN := Lib.hid (And.intro hlen (And.intro hw Lx))
  have HX := Lib.hid (And.intro hx HW)
  have HP := Lib.hid (And.intro hp hpn)
  have q1 : (d.kind == 1) = false := by rw [hk]; rfl
  have q2 : (d.kind == 2) = false := by rw [hk]; rfl
  have q7 : (d.kind == 7) = false := by rw [hk]; rfl
  have q6 : (d.kind == 6) = true := by rw [hk]; rfl
  clear hAt hst hlen hk hw Lx hx HW hp hpn
  obtain ⟨c0, c1, c2, c3, c4⟩ := HE.out _ H0.out.all
  go_enter Tryd.func27, Tryd.ntmps27
  go_wp2_with fail
  refine (H0.out.say [[114, 101, 102, 32]] (by have h := HLEN.out; simp only [List.flatten_cons, List.flatten_nil, List.append_nil, List.length_append, List.length_cons, List.length_nil]; omega) (by simp) 1 rfl _ rfl).mono ?_
  rintro e v1 ⟨rfl, hs1⟩
  have H1 := Lib.hid hs1
  clear hs1 c0 c1 c2 c3 c4
  obtain ⟨c0, c1, c2, c3, c4⟩ := HE.out _ H1.out.all
  rw [HP.out.1, HP.out.2] at c2
  go_wp2_with fail
  refine (part_new w0 c x.d x.wt (x.tx c.T c.R) HLEN.out.2.2 HX.out.2 [3, 6] 2 rfl (by omega) _ _ rfl b pb po _ w _ HX.out.1 H1.out (by have h := HLEN.out; simp only [List.flatten_cons, List.flatten_nil, List.append_nil, List.length_append, List.length_cons, List.length_nil]; omega)).mono ?_
  rintro e v2 ⟨rfl, hs2⟩
  have H2 := Lib.hid hs2
  clear hs2 c0 c1 c2 c3 c4
  go_wp2_with fail
  go_end0
  refine ⟨rfl, ?_⟩
  have h := H2.out
  rw [show decide (x.d.kind ∈ [3, 6]) = (decide (x.d.kind = 3) || decide (x.d.kind = 6)) by simp] at h
  simpa [List.append_assoc] using h

set_option maxRecDepth 100000 in
set_option maxHeartbeats 2000000 in
theorem whole_3 (w0 : World) (c : Cx) (d : TyD) (wt : Nat) (hk : d.kind = 3) (x y : Ty) (pb po : Nat) (hp : d.pA = some ⟨pb, po, none⟩) (hpn : d.pn = 2) (hx : x.d.At w0 pb po) (hy : y.d.At w0 pb (po + 5)) (HW : WholeAt w0 c x) (HW2 : WholeAt w0 c y) (Lx : (x.tx c.T c.R).length + 2 ≤ x.wt) (hw : x.wt + y.wt + 50 ≤ wt) :
    FunAt 27 w0 c d wt (brkT (decide (x.d.kind = 3)) (x.tx c.T c.R) ++ [32, 45, 62, 32] ++ y.tx c.T c.R) := by
  intro b b' o' acc w hAt hst hlen
  have H0 := Lib.hid hst
  have HE := Lib.hid (fun W (h : Below w0.heap.size w0 W) => hAt.lower h)
  have HLEN := Lib.hid (And.intro hlen (And.intro hw (And.intro Lx (brkT_len (decide (x.d.kind = 3)) (x.tx c.T c.R)))))
  have HX := Lib.hid (And.intro hx HW)
  have HY := Lib.hid (And.intro hy HW2)
  have HP := Lib.hid (And.intro hp hpn)
  have q1 : (d.kind == 1) = false := by rw [hk]; rfl
  have q2 : (d.kind == 2) = false := by rw [hk]; rfl
  have q7 : (d.kind == 7) = false := by rw [hk]; rfl
  have q6 : (d.kind == 6) = false := by rw [hk]; rfl
  have q3 : (d.kind == 3) = true := by rw [hk]; rfl
  clear hAt hst hlen hk hw Lx hx HW hy HW2 hp hpn
  obtain ⟨c0, c1, c2, c3, c4⟩ := HE.out _ H0.out.all
  rw [HP.out.1, HP.out.2] at c2
  go_enter Tryd.func27, Tryd.ntmps27
  go_wp2_with fail
  refine (part_new w0 c x.d x.wt (x.tx c.T c.R) HLEN.out.2.2.1 HX.out.2 [3] 1 rfl (by omega) _ _ rfl b pb po _ w _ HX.out.1 H0.out (by have h := HLEN.out; omega)).mono ?_
  rintro e v1 ⟨rfl, hs1⟩
  have H1 := Lib.hid (show St w0 c b (acc ++ brkT (decide (x.d.kind = 3)) (x.tx c.T c.R)) w v1 by rw [show decide (x.d.kind ∈ [3]) = decide (x.d.kind = 3) by simp] at hs1; exact hs1)
  clear hs1 c0 c1 c2 c3 c4
  go_wp2_with fail
  refine (H1.out.say [[32, 45, 62, 32]] (by have h := HLEN.out; simp only [List.flatten_cons, List.flatten_nil, List.append_nil, List.length_append, List.length_cons, List.length_nil]; omega) (by simp) 1 rfl _ rfl).mono ?_
  rintro e v2 ⟨rfl, hs2⟩
  have H2 := Lib.hid hs2
  clear hs2
  obtain ⟨c0, c1, c2, c3, c4⟩ := HE.out _ H2.out.all
  rw [HP.out.1, HP.out.2] at c2
  go_wp2_with fail
  refine (HY.out.2.step H2.out HY.out.1 (by have h := HLEN.out; simp only [List.flatten_cons, List.flatten_nil, List.append_nil, List.length_append, List.length_cons, List.length_nil]; omega)).mono ?_
  rintro e v3 ⟨rfl, hs3⟩
  have H3 := Lib.hid hs3
  clear hs3 c0 c1 c2 c3 c4
  go_wp2_with fail
  go_end0
  exact ⟨rfl, by have h := H3.out; simpa [List.append_assoc] using h⟩


set_option maxRecDepth 100000 in
theorem St.tailAt {w0 wS w : World} {c : Cx} {b : Nat} {acc : Str} (h : St w0 c b acc wS w) {n : Int} (hn : n ∈ c.R) (hwf : (Lit.int .i64 n).wf = true) (hl : c.R.length ≤ 4000000) (hT : Tab w0) :
    ∃ bk, w.cell? ⟨b, 3, none⟩ = some (.map (some bk)) ∧ (Instr.lookup 47 (.map (some bk)) (.int .i64 n) false).run Tryd.prog w.drew = .ok (.int .i64 (atF c.R n 0)) w.drew ∧ Calls Tryd.prog 39 #[.int .i64 (atF c.R n 0)] w.drew fun e w' => e = .returned (.string (bstr (Lib.itoa (atF c.R n 0)))) ∧ Below w.drew.heap.size w.drew w' := by
  obtain ⟨bk, D, hm, hown, hD⟩ := h.2.2.2.2.2
  have g2 := h.1.maps.2
  rw [hm] at g2
  have hkey : keyOf Tryd.prog 3 (.int .i64 n) = some (.int .i64 n) := keyOf_int_mk Tryd.underlying3 hwf
  obtain ⟨cv, hlk, hcv, _⟩ := World.ownsMap.lookup_int (World.ownsMap.drew hown) lawInt Tryd.underlying47 Tryd.underlying3 (zeroInt w.drew) hkey
  have hcz : cv = atF c.R n 0 := by rw [hD n hn] at hcv; injection hcv with hcv; injection hcv with _ hcv; exact hcv.symm
  rw [hcz] at hlk
  exact ⟨bk, g2, hlk, itoa_any _ (atF_inR hl n) w.drew (tab_below hT (below_then h.all (below_drew1 w)))⟩
/-- What a row is asked of, to be written. -/
structure RowOk (w0 : World) (c : Cx) (d : TyD) (l : List Ty) : Prop where
  inn : (Ty.mk d l).In w0
  ln : d.ln = d.pn
  whole : ∀ x ∈ l, WholeAt w0 c x
  tab : Tab w0
  tail : 0 ≤ d.tail → d.tail ∈ c.R
  wf : (Lit.int .i64 d.tail).wf = true
  lT : c.T.length ≤ 4000000
  lR : c.R.length ≤ 4000000

set_option maxRecDepth 100000 in
set_option maxHeartbeats 4000000 in
theorem row_any (w0 : World) (c : Cx) (d : TyD) (l : List Ty) (hO : RowOk w0 c d l) (bg en : Str) (hbg : bg.length = 1) (hen : en.length = 1) (b b' o' : Nat) (acc : Str) (wS w : World) (hAt : d.At w0 b' o') (hst : St w0 c b acc wS w) (hlen : acc.length + (Ty.mk d l).wt ≤ CAP) :
    Calls Tryd.prog 41 #[.pointer (some ⟨b, 0, none⟩), .pointer (some ⟨b', o', none⟩), .string (bstr bg), .string (bstr en)] w fun e w' => e = .returned (.tuple #[]) ∧ St w0 c b (acc ++ (bg ++ d.rowTx c.R (txL c.T c.R l) ++ en)) wS w' := by
  have H0 := Lib.hid hst
  have HO := Lib.hid hO
  have HE := Lib.hid (fun W (h : Below w0.heap.size w0 W) => hAt.lower h)
  have hwt : (Ty.mk d l).wt = 50 + labW d.labels + wtL l := rfl
  rw [hwt] at hlen
  have HLEN := Lib.hid (And.intro hlen (And.intro hbg hen))
  have HPN := Lib.hid (show l.length = d.pn from hO.inn.len)
  have HLB := Lib.hid (show d.labels.length = d.ln from hO.inn.labLen)
  have HCAP := Lib.hid (show d.ln ≤ 4000000 from hO.inn.cap.2.2.2.2.1)
  have HLAB := Lib.hid (show Rd w0 1 d.lA d.ln (strs d.labels) from hO.inn.lab)
  clear hAt hst hlen hO hbg hen hwt
  obtain ⟨lA, hlA⟩ : ∃ lA, d.lA = lA := ⟨_, rfl⟩
  rw [hlA] at HLAB
  have HLE := Lib.hid hlA
  clear hlA
  obtain ⟨c0, c1, c2, c3, c4⟩ := HE.out _ H0.out.all
  go_enter Tryd.func41, Tryd.ntmps41
  go_wp2_with fail
  refine (H0.out.say [bg] (by have h := HLEN.out; simp only [List.flatten_cons, List.flatten_nil, List.append_nil, List.length_append, List.length_cons, List.length_nil]; omega) (by simp) 1 rfl _ rfl).mono ?_
  rintro e v1 ⟨rfl, hs1⟩
  have H1 := Lib.hid hs1
  clear hs1 c0 c1 c2 c3 c4
  obtain ⟨c0, c1, c2, c3, c4⟩ := HE.out _ H1.out.all
  rw [HLE.out] at c3
  go_wp2_with fail
  clear c0 c1 c2 c3 c4
  go_loopw [19] (fun i wr => ∃ k : Nat, i = .int .i64 k ∧ k ≤ d.ln ∧ St w0 c b (acc ++ bg ++ rowTo d.labels (txL c.T c.R l) k) wS wr) (fun i _ => d.ln - (intOf i).toNat)
  case atStart => exact ⟨0, rfl, Nat.zero_le _, by have h := H1.out; simpa [rowTo] using h⟩
  case round =>
    obtain ⟨k, rfl, hk, hst⟩ := hrel
    have HR := Lib.hid hst
    have HRL := Lib.hid (rowTo_len d.labels (txL c.T c.R l) k (by rw [HLB.out]; exact hk))
    clear hst
    by_cases hlt : k < d.ln
    · have hkl : k < l.length := by rw [HPN.out, ← HO.out.ln]; exact hlt
      have hkb : k < d.labels.length := by rw [HLB.out]; exact hlt
      obtain ⟨b1, o1, rfl, hcs⟩ := (HLAB.out.below HR.out.all).str hkb
      have hc := hcs k hkb
      obtain ⟨pb, po, hpA, hAtP⟩ := HO.out.inn.part (k := k) hkl
      have HPA := Lib.hid (show d.pA = some ⟨pb, po, none⟩ from hpA)
      have HAx := Lib.hid (show (l[k]).d.At w0 pb (po + k * 5) from hAtP k hkl)
      have HWx := Lib.hid (HO.out.whole l[k] (List.getElem_mem hkl))
      have HWT := Lib.hid (And.intro (wtL_at c.T c.R HO.out.lT HO.out.lR l k hkl) (labW_at d.labels k hkb))
      have HN := Lib.hid (show rowTo d.labels (txL c.T c.R l) (k + 1) = rowTo d.labels (txL c.T c.R l) k ++ ((if k = 0 then [] else [44, 32]) ++ (d.labels[k] ++ [32, 58, 32] ++ (l[k]).tx c.T c.R)) by rw [rowTo_at _ hkb, txL_at c.T c.R l k hkl])
      obtain ⟨x, hx⟩ : ∃ x, l[k] = x := ⟨_, rfl⟩
      rw [hx] at HAx HWx HWT HN
      obtain ⟨y, hy⟩ : ∃ y, d.labels[k] = y := ⟨_, rfl⟩
      rw [hy] at HWT HN hc
      have hki : (k : Int) < (d.ln : Int) := by omega
      have hkp : (k : Int) < (d.pn : Int) := by rw [← HO.out.ln]; omega
      have hk0 : (0 : Int) ≤ (k : Int) := by omega
      have hk9 : (k : Int) ≤ 4000000 := by have := HCAP.out; omega
      clear hx hy hcs hpA hAtP
      by_cases hk1 : k = 0
      · have qk : ¬ (0 : Int) < (k : Int) := by omega
        have HN := Lib.hid (HN.out.trans (show _ = rowTo d.labels (txL c.T c.R l) k ++ (y ++ [32, 58, 32] ++ x.tx c.T c.R) by rw [if_pos hk1, List.nil_append]))
        clear hk1
        obtain ⟨c0, c1, c2, c3, c4⟩ := HE.out _ HR.out.all
        rw [HPA.out] at c2
        go_wp2_with fail
        refine (HR.out.say [y, [32, 58, 32]] (by have h := HLEN.out; have h1 := HRL.out; have h3 := HWT.out; simp only [List.flatten_cons, List.flatten_nil, List.append_nil, List.length_append, List.length_cons, List.length_nil]; omega) (by simp) 2 rfl _ rfl).mono ?_
        rintro e v4 ⟨rfl, hs4⟩
        have H4 := Lib.hid hs4
        clear hs4 c0 c1 c2 c3 c4
        obtain ⟨c0, c1, c2, c3, c4⟩ := HE.out _ H4.out.all
        rw [HPA.out] at c2
        go_wp2_with fail
        refine (HWx.out.step H4.out HAx.out (by have h := HLEN.out; have h1 := HRL.out; have h3 := HWT.out; simp only [List.flatten_cons, List.flatten_nil, List.append_nil, List.length_append, List.length_cons, List.length_nil]; omega)).mono ?_
        rintro e v5 ⟨rfl, hs5⟩
        have H5 := Lib.hid hs5
        clear hs5 c0 c1 c2 c3 c4
        go_wp2_with fail
        go_roundw
        case rel => exact ⟨k + 1, by go_num, hlt, by have h := H5.out; rw [HN.out]; simpa [List.append_assoc] using h⟩
        case measure => simp [intOf] <;> omega
      · have qk : (0 : Int) < (k : Int) := by omega
        have HN := Lib.hid (HN.out.trans (show _ = rowTo d.labels (txL c.T c.R l) k ++ ([44, 32] ++ (y ++ [32, 58, 32] ++ x.tx c.T c.R)) by rw [if_neg hk1]))
        clear hk1
        obtain ⟨c0, c1, c2, c3, c4⟩ := HE.out _ HR.out.all
        rw [HPA.out] at c2
        go_wp2_with fail
        refine (HR.out.say [[44, 32]] (by have h := HLEN.out; have h1 := HRL.out; have h3 := HWT.out; simp only [List.flatten_cons, List.flatten_nil, List.append_nil, List.length_append, List.length_cons, List.length_nil]; omega) (by simp) 1 rfl _ rfl).mono ?_
        rintro e v3 ⟨rfl, hs3⟩
        have H3 := Lib.hid hs3
        clear hs3 c0 c1 c2 c3 c4 hc
        obtain ⟨c0, c1, c2, c3, c4⟩ := HE.out _ H3.out.all
        rw [HPA.out] at c2
        go_wp2_with fail
        refine (H3.out.say [y, [32, 58, 32]] (by have h := HLEN.out; have h1 := HRL.out; have h3 := HWT.out; simp only [List.flatten_cons, List.flatten_nil, List.append_nil, List.length_append, List.length_cons, List.length_nil]; omega) (by simp) 2 rfl _ rfl).mono ?_
        rintro e v4 ⟨rfl, hs4⟩
        have H4 := Lib.hid hs4
        clear hs4 c0 c1 c2 c3 c4
        obtain ⟨c0, c1, c2, c3, c4⟩ := HE.out _ H4.out.all
        rw [HPA.out] at c2
        go_wp2_with fail
        refine (HWx.out.step H4.out HAx.out (by have h := HLEN.out; have h1 := HRL.out; have h3 := HWT.out; simp only [List.flatten_cons, List.flatten_nil, List.append_nil, List.length_append, List.length_cons, List.length_nil]; omega)).mono ?_
        rintro e v5 ⟨rfl, hs5⟩
        have H5 := Lib.hid hs5
        clear hs5 c0 c1 c2 c3 c4
        go_wp2_with fail
        go_roundw
        case rel => exact ⟨k + 1, by go_num, hlt, by have h := H5.out; rw [HN.out]; simpa [List.append_assoc] using h⟩
        case measure => simp [intOf] <;> omega
    · have hki : ¬ (k : Int) < (d.ln : Int) := by omega
      have hkn : k = d.labels.length := by rw [HLB.out]; omega
      rw [hkn] at HR HRL
      have HW9 := Lib.hid (show labW (d.labels.take d.labels.length) ≤ labW d.labels ∧ sumLen ((txL c.T c.R l).take d.labels.length) ≤ wtL l from ⟨labW_take _ _, Nat.le_trans (sumLen_take _ _) (sumTx_len c.T c.R HO.out.lT HO.out.lR l)⟩)
      clear hkn
      obtain ⟨c0, c1, c2, c3, c4⟩ := HE.out _ HR.out.all
      by_cases ht : 0 ≤ d.tail
      · have qt : decide (0 ≤ d.tail) = true := decide_eq_true ht
        by_cases hz : d.ln = 0
        · have HTX := Lib.hid (show d.tailTx c.R = [46, 46] ++ Lib.itoa (atF c.R d.tail 0) by unfold TyD.tailTx; rw [if_pos ht, if_neg (by rw [HLB.out, hz]; omega), List.nil_append])
          have qz : ¬ (0 : Int) < (d.ln : Int) := by omega
          obtain ⟨bk, g3, hlk, hI⟩ := HR.out.tailAt (HO.out.tail ht) HO.out.wf HO.out.lR HO.out.tab
          have HIL := Lib.hid (itoa_len _ (atF_inR HO.out.lR d.tail))
          have HI := Lib.hid hI
          obtain ⟨z, hzz⟩ : ∃ z, atF c.R d.tail 0 = z := ⟨_, rfl⟩
          rw [hzz] at HI HIL HTX hlk
          obtain ⟨I, hII⟩ : ∃ I, Lib.itoa z = I := ⟨_, rfl⟩
          rw [hII] at HI HIL HTX
          have HC := Lib.hid (fun (v : World) (h : Below _ _ v) => ((HR.out.below (below_drew1 _)).below h).say [[46, 46], I] (by have h := HLEN.out; have h1 := HRL.out; have h3 := HW9.out; have h4 := HIL.out; simp only [List.flatten_cons, List.flatten_nil, List.append_nil, List.length_append, List.length_cons, List.length_nil]; omega) (by simp) 2 rfl #[.string ⟨#[46, 46]⟩, .string (bstr I)] rfl)
          clear hI hzz hII ht
          go_wp2_with fail
          go_region_with (first
            | (go_at_call 39; (with_reducible refine HI.out.mono ?_); rintro e v8 ⟨rfl, hb8⟩)
            | (go_at_call 38; (with_reducible refine (HC.out _ hb8).mono ?_); rintro e v9 ⟨rfl, hs9⟩))
          all_goals
            have H9 := Lib.hid hs9
            clear hs9 hb8
            go_wp2_with fail
            refine (H9.out.say [en] (by have h := HLEN.out; have h1 := HRL.out; have h3 := HW9.out; have h4 := HIL.out; simp only [List.flatten_cons, List.flatten_nil, List.append_nil, List.length_append, List.length_cons, List.length_nil]; omega) (by simp) 1 rfl _ rfl).mono ?_
            rintro e v10 ⟨rfl, hs10⟩
            have H10 := Lib.hid hs10
            clear hs10
            go_wp2_with fail
            go_end0
            exact ⟨rfl, by have h := H10.out; unfold TyD.rowTx; rw [HTX.out]; simpa [List.append_assoc] using h⟩
        · have HTX := Lib.hid (show d.tailTx c.R = [32, 124, 32] ++ ([46, 46] ++ Lib.itoa (atF c.R d.tail 0)) by unfold TyD.tailTx; rw [if_pos ht, if_pos (by rw [HLB.out]; omega)])
          have qz : (0 : Int) < (d.ln : Int) := by omega
          clear hz
          go_wp2_with fail
          refine (HR.out.say [[32, 124, 32]] (by have h := HLEN.out; have h1 := HRL.out; have h3 := HW9.out; simp only [List.flatten_cons, List.flatten_nil, List.append_nil, List.length_append, List.length_cons, List.length_nil]; omega) (by simp) 1 rfl _ rfl).mono ?_
          rintro e v5 ⟨rfl, hs5⟩
          have H5 := Lib.hid hs5
          clear hs5 c0 c1 c2 c3 c4
          obtain ⟨c0, c1, c2, c3, c4⟩ := HE.out _ H5.out.all
          obtain ⟨bk, g3, hlk, hI⟩ := H5.out.tailAt (HO.out.tail ht) HO.out.wf HO.out.lR HO.out.tab
          have HIL := Lib.hid (itoa_len _ (atF_inR HO.out.lR d.tail))
          have HI := Lib.hid hI
          obtain ⟨z, hzz⟩ : ∃ z, atF c.R d.tail 0 = z := ⟨_, rfl⟩
          rw [hzz] at HI HIL HTX hlk
          obtain ⟨I, hII⟩ : ∃ I, Lib.itoa z = I := ⟨_, rfl⟩
          rw [hII] at HI HIL HTX
          have HC := Lib.hid (fun (v : World) (h : Below _ _ v) => ((H5.out.below (below_drew1 _)).below h).say [[46, 46], I] (by have h := HLEN.out; have h1 := HRL.out; have h3 := HW9.out; have h4 := HIL.out; simp only [List.flatten_cons, List.flatten_nil, List.append_nil, List.length_append, List.length_cons, List.length_nil]; omega) (by simp) 2 rfl #[.string ⟨#[46, 46]⟩, .string (bstr I)] rfl)
          clear hI hzz hII ht
          go_wp2_with fail
          go_region_with (first
            | (go_at_call 39; (with_reducible refine HI.out.mono ?_); rintro e v8 ⟨rfl, hb8⟩)
            | (go_at_call 38; (with_reducible refine (HC.out _ hb8).mono ?_); rintro e v9 ⟨rfl, hs9⟩))
          all_goals
            have H9 := Lib.hid hs9
            clear hs9 hb8
            go_wp2_with fail
            refine (H9.out.say [en] (by have h := HLEN.out; have h1 := HRL.out; have h3 := HW9.out; have h4 := HIL.out; simp only [List.flatten_cons, List.flatten_nil, List.append_nil, List.length_append, List.length_cons, List.length_nil]; omega) (by simp) 1 rfl _ rfl).mono ?_
            rintro e v10 ⟨rfl, hs10⟩
            have H10 := Lib.hid hs10
            clear hs10
            go_wp2_with fail
            go_end0
            exact ⟨rfl, by have h := H10.out; unfold TyD.rowTx; rw [HTX.out]; simpa [List.append_assoc] using h⟩
      · have HTX := Lib.hid (show d.tailTx c.R = [] by unfold TyD.tailTx; rw [if_neg ht])
        have qt : decide (0 ≤ d.tail) = false := decide_eq_false ht
        go_wp2_with fail
        refine (HR.out.say [en] (by have h := HLEN.out; have h1 := HRL.out; have h3 := HW9.out; simp only [List.flatten_cons, List.flatten_nil, List.append_nil, List.length_append, List.length_cons, List.length_nil]; omega) (by simp) 1 rfl _ rfl).mono ?_
        rintro e v4 ⟨rfl, hs4⟩
        have H4 := Lib.hid hs4
        clear hs4 c0 c1 c2 c3 c4
        go_wp2_with fail
        go_end0
        exact ⟨rfl, by have h := H4.out; unfold TyD.rowTx; rw [HTX.out]; simpa [List.append_assoc] using h⟩

end Go.Proofs.YtklandpagieapaaDoor

namespace Go.Proofs.YtklandpagieapaaDoor
open Go.ChangeShapes Go.WideShapes Go.ChangeAt Go.RowKit Go.Sort Go.Maps
set_option linter.unusedVariables false
set_option linter.unusedSimpArgs false

inductive Ty.Rg : Ty → Prop
  | mk (d : TyD) (l : List Ty) (hn : (Lit.int .i64 d.n).wf = true) (ht : (Lit.int .i64 d.tail).wf = true) (sub : ∀ x ∈ l, Ty.Rg x) : Ty.Rg (.mk d l)
/-- A block of the meeter's own. -/
def Mine (B : Nat) (v : Value) (g : Nat) : Prop := g = B ∨ g = B + 1 ∨ g = B + 2 ∨ v.ownBlock = some g
structure M2 (w : World) (B1 B2 : Nat) (T R : List Int) (v1 v2 : Value) : Prop where
  m1 : MT w B1 T v1
  m2 : MT w B2 R v2
  s1 : ∀ g, Mine B1 v1 g → OthM B2 w v2 g
  s2 : ∀ g, Mine B2 v2 g → OthM B1 w v1 g
section
variable {w w1 : World} {B B1 B2 : Nat} {l T R T1 R1 : List Int} {v v1 v2 v3 : Value}
theorem MT.kept (h : MT w B l v) (hk : ∀ g, Mine B v g → w1.heap[g]? = w.heap[g]?) : MT w1 B l v := by
  have kB := hk B (.inl rfl)
  have kM := hk (B + 1) (.inr (.inl rfl))
  have kC := hk (B + 2) (.inr (.inr (.inl rfl)))
  obtain ⟨D, h1, h2⟩ := h.mp
  refine ⟨(World.cell?_of_block (a := ⟨B, 0, none⟩) kB).trans h.cl, (World.frozen?_of_block (a := ⟨B, 0, none⟩) kB).trans h.fl, (World.cell?_of_block (a := ⟨B + 2, 0, none⟩) kC).trans h.cm, ⟨h.own.1, ?_⟩, D, ?_, h2⟩
  · rcases h.own.2 with hn | ⟨g, cap, cur, rfl, hb, hgg, rest⟩
    · exact .inl hn
    · exact .inr ⟨g, cap, cur, rfl, hb, (hk g (.inr (.inr (.inr rfl)))).trans hgg, rest⟩
  · obtain ⟨es, clock, hh, F, hs, hD⟩ := h1
    exact ⟨es, clock, kM.trans hh, F, hs, hD⟩
theorem MT.mine (h : MT w B l v) {g : Nat} (hg : Mine B v g) : g < w.heap.size := by
  have := h.lt
  rcases hg with rfl | rfl | rfl | q
  · omega
  · omega
  · omega
  · exact (h.own.lt g q).2
theorem oth_new (h : MT w B2 R v2) {g : Nat} (hg : w.heap.size ≤ g) (hg1 : g < w1.heap.size) : OthM B2 w1 v2 g := by
  have := h.lt
  exact ⟨hg1, by omega, by omega, by omega, fun e => by have := (h.own.lt g e.symm).2; omega⟩
theorem oth_size {g : Nat} (h : OthM B w v g) (hs : w.heap.size ≤ w1.heap.size) : OthM B w1 v g := ⟨Nat.lt_of_lt_of_le h.1 hs, h.2⟩
theorem mine_new (k : WM B w v w1 v1) {g : Nat} (hg : Mine B v1 g) : Mine B v g ∨ w.heap.size ≤ g := by
  rcases hg with rfl | rfl | rfl | q
  · exact .inl (.inl rfl)
  · exact .inl (.inr (.inl rfl))
  · exact .inl (.inr (.inr (.inl rfl)))
  · rcases k.new g q with q | q
    · exact .inl (.inr (.inr (.inr q)))
    · exact .inr q
theorem M2.first (h : M2 w B1 B2 T R v1 v2) (n : MT w1 B1 T1 v3) (k : WM B1 w v1 w1 v3) : M2 w1 B1 B2 T1 R v3 v2 := by
  refine ⟨n, h.m2.kept fun g hg => (k.oth g (h.s2 g hg)).2, fun g hg => ?_, fun g hg => (k.oth g (h.s2 g hg)).1⟩
  have hlt := n.mine hg
  rcases mine_new k hg with q | q
  · exact oth_size (h.s1 g q) k.b.size
  · exact oth_new h.m2 q hlt
theorem M2.second (h : M2 w B1 B2 T R v1 v2) (n : MT w1 B2 R1 v3) (k : WM B2 w v2 w1 v3) : M2 w1 B1 B2 T R1 v1 v3 := by
  refine ⟨h.m1.kept fun g hg => (k.oth g (h.s1 g hg)).2, n, fun g hg => (k.oth g (h.s1 g hg)).1, fun g hg => ?_⟩
  have hlt := n.mine hg
  rcases mine_new k hg with q | q
  · exact oth_size (h.s2 g q) k.b.size
  · exact oth_new h.m1 q hlt
theorem TyD.At.old {d : TyD} {b o : Nat} (h : d.At w b o) (hb : Below B w w1) (hlt : b < B) : d.At w1 b o :=
  ⟨(World.cell?_of_block (a := ⟨b, o, none⟩) (hb.block b hlt)).trans h.c0, (World.cell?_of_block (a := ⟨b, o + 1, none⟩) (hb.block b hlt)).trans h.c1, (World.cell?_of_block (a := ⟨b, o + 2, none⟩) (hb.block b hlt)).trans h.c2, (World.cell?_of_block (a := ⟨b, o + 3, none⟩) (hb.block b hlt)).trans h.c3, (World.cell?_of_block (a := ⟨b, o + 4, none⟩) (hb.block b hlt)).trans h.c4⟩
end

theorem isRow_any (d : TyD) (b o : Nat) (w : World) (h : d.At w b o) : Calls Tryd.prog 33 #[.pointer (some ⟨b, o, none⟩)] w fun e w' => e = .returned (.bool (decide (d.kind = 4 ∨ d.kind = 5))) ∧ w' = w := by
  obtain ⟨c0, _, _, _, _⟩ := h
  by_cases h4 : d.kind = 4
  · have q4 : (d.kind == 4) = true := by simpa using h4
    go_enter Tryd.func33, Tryd.ntmps33
    go_wp2_with fail
    go_returns
    exact ⟨by rw [decide_eq_true (Or.inl h4)]; rfl, rfl⟩
  · have q4 : (d.kind == 4) = false := by simpa using h4
    by_cases h5 : d.kind = 5
    · have q5 : (d.kind == 5) = true := by simpa using h5
      go_enter Tryd.func33, Tryd.ntmps33
      go_wp2_with fail
      go_returns
      exact ⟨by rw [decide_eq_true (Or.inr h5)]; rfl, rfl⟩
    · have q5 : (d.kind == 5) = false := by simpa using h5
      go_enter Tryd.func33, Tryd.ntmps33
      go_wp2_with fail
      go_returns
      exact ⟨by rw [decide_eq_false (by rintro (h | h); exact h4 h; exact h5 h)]; rfl, rfl⟩

/-- The children's part of the walk. -/
def KidsW (w0 : World) (B1 B2 : Nat) (l : List Ty) : Prop :=
  ∀ x ∈ l, x.Rg → ∀ (T R : List Int) (v1 v2 : Value) (W : World) (b o : Nat), Below w0.heap.size w0 W → M2 W B1 B2 T R v1 v2 → x.d.At W b o → b < B1 → T.length + x.nodes ≤ 4000000 → R.length + x.nodes ≤ 4000000 →
    Calls Tryd.prog 22 #[.pointer (some ⟨b, o, none⟩), meetFn B1, meetFn B2] W fun e w' => e = .returned (.tuple #[]) ∧ ∃ v1' v2', M2 w' B1 B2 (meetT x T R).1 (meetT x T R).2 v1' v2' ∧ Below B1 W w'

set_option maxRecDepth 100000 in
set_option maxHeartbeats 1000000 in
theorem walk_one (w0 : World) (B1 B2 : Nat) (hB1 : w0.heap.size ≤ B1) (hB : B1 ≤ B2) (d : TyD) (l : List Ty) (hI : Ty.In w0 (.mk d l)) (hG : Ty.Rg (.mk d l)) (hK : KidsW w0 B1 B2 l) (T R : List Int) (v1 v2 : Value) (w : World) (b o : Nat) (hb : Below w0.heap.size w0 w)
    (hM : M2 w B1 B2 T R v1 v2) (hA : d.At w b o) (hlt : b < B1) (hT : T.length + (1 + nodesL l) ≤ 4000000) (hR : R.length + (1 + nodesL l) ≤ 4000000) :
    Calls Tryd.prog 22 #[.pointer (some ⟨b, o, none⟩), meetFn B1, meetFn B2] w fun e w' => e = .returned (.tuple #[]) ∧ ∃ v1' v2', M2 w' B1 B2 (meetT (.mk d l) T R).1 (meetT (.mk d l) T R).2 v1' v2' ∧ Below B1 w w' := by
  have HM := Lib.hid hM
  have HI := Lib.hid hI
  have HK := Lib.hid hK
  have HB := Lib.hid hb
  have HA := Lib.hid hA
  have HT := Lib.hid (And.intro hT hR)
  have HN := Lib.hid (And.intro hB1 (And.intro hB hlt))
  have HG := Lib.hid (show (Lit.int .i64 d.n).wf = true ∧ (Lit.int .i64 d.tail).wf = true ∧ ∀ x ∈ l, Ty.Rg x by cases hG; exact ⟨by assumption, by assumption, by assumption⟩)
  obtain ⟨c0, c1, c2, _, c4⟩ := hA
  clear hM hI hK hb hT hR hB1 hB hlt hG
  unfold meetFn
  go_enter Tryd.func22, Tryd.ntmps22
  go_upto_if 11 with fail
  go_cut [] from 7 to 17 (fun wx => ∃ T1 v1', (if d.kind = 7 then addI T d.n else T) = T1 ∧ M2 wx B1 B2 T1 R v1' v2 ∧ Below B1 w wx)
  case first =>
    by_cases h7 : d.kind = 7
    · have q7 : (d.kind == 7) = true := by simpa using h7
      go_wp2_with fail
      refine (meets_any B1 T v1 d.n w HM.out.m1 HG.out.1 (by have := HT.out; omega)).mono ?_
      rintro e w3 ⟨rfl, v3, hn3, hk3⟩
      have H3 := Lib.hid (And.intro (HM.out.first hn3 hk3) hk3.b)
      clear hn3 hk3
      go_wp2_with fail
      go_meet
      exact ⟨_, _, if_pos h7, H3.out⟩
    · have q7 : (d.kind == 7) = false := by simpa using h7
      go_wp2_with fail
      go_meet
      exact ⟨_, _, if_neg h7, HM.out, Below.refl _ _⟩
  case rest =>
  obtain ⟨T1, v3, hT1, hm1, hb1⟩ := hcut
  have hlT : T1.length ≤ T.length + 1 := by
    have := addI_len T d.n
    rw [← hT1]; split <;> omega
  have HMD := Lib.hid (And.intro hm1 hb1)
  have HT1 := Lib.hid hT1
  have HLT := Lib.hid hlT
  have HPN := Lib.hid (show l.length = d.pn from HI.out.len)
  have HP4 := Lib.hid (show d.pn ≤ 4000000 from HI.out.cap.2.2.2.2.2)
  obtain ⟨_, _, c2w, _, _⟩ := HA.out.old hb1 HN.out.2.2
  clear hm1 hb1 hT1 hlT
  go_wp2_with fail
  clear c0 c1 c2 c4 c2w
  go_loopw [23] (fun i wr => ∃ (k : Nat) (T2 R2 : List Int) (v4 v5 : Value), i = .int .i64 k ∧ k ≤ d.pn ∧ meetTs (l.take k) T1 R = (T2, R2) ∧ M2 wr B1 B2 T2 R2 v4 v5 ∧ Below B1 w wr) (fun i _ => d.pn - (intOf i).toNat)
  case atStart => exact ⟨0, T1, R, v3, v2, rfl, Nat.zero_le _, by rw [List.take_zero]; simp [meetTs], HMD.out⟩
  case round =>
    obtain ⟨k, T2, R2, v4, v5, rfl, hk, hme, hm, hbw⟩ := hrel
    have HR := Lib.hid (And.intro hm hbw)
    have HME := Lib.hid hme
    have hAt := HA.out.old hbw HN.out.2.2
    have hwr : RowKit.Below w0.heap.size w0 wr := HB.out.trans (hbw.mono HN.out.1)
    have HWR := Lib.hid hwr
    obtain ⟨c0, c1, c2, _, c4⟩ := hAt
    clear hm hbw hme
    by_cases hlt2 : k < d.pn
    · have hjl : k < l.length := by rw [HPN.out]; exact hlt2
      obtain ⟨pb, po, hpA, hAtP⟩ := HI.out.part (k := k) hjl
      have hpA' : d.pA = some ⟨pb, po, none⟩ := hpA
      rw [hpA'] at c2
      have hAt0 : (l[k]).d.At w0 pb (po + k * 5) := hAtP k hjl
      have hpl : pb < B1 := Nat.lt_of_lt_of_le hAt0.lt HN.out.1
      have hAtM := hAt0.lower hwr
      obtain ⟨x, hx⟩ : ∃ x, l[k] = x := ⟨_, rfl⟩
      rw [hx] at hAtM
      have hxm : x ∈ l := by rw [← hx]; exact List.getElem_mem hjl
      have htk : l.take (k + 1) = l.take k ++ [x] := by rw [List.take_succ_eq_append_getElem hjl, hx]
      have hn1 := nodesL_take l (k + 1)
      rw [htk, nodesL_snoc] at hn1
      have hl2 := meetTs_len (l.take k) T1 R
      rw [HME.out] at hl2
      have hsT : T2.length + x.nodes ≤ 4000000 := by have := HT.out; have := HLT.out; have h3 : T2.length ≤ T1.length + nodesL (l.take k) := hl2.1; omega
      have hsR : R2.length + x.nodes ≤ 4000000 := by have := HT.out; have h3 : R2.length ≤ R.length + nodesL (l.take k) := hl2.2; omega
      have HMM := Lib.hid (HK.out x hxm (HG.out.2.2 x hxm) T2 R2 v4 v5 wr pb (po + k * 5) hwr HR.out.1 hAtM hpl hsT hsR)
      have hsn : meetTs (l.take (k + 1)) T1 R = ((meetT x T2 R2).1, (meetT x T2 R2).2) := by rw [htk, meetTs_snoc, HME.out]
      have HS := Lib.hid hsn
      have hji : (k : Int) < (d.pn : Int) := by omega
      have hj4 : (k : Int) ≤ 4000000 := by have := HP4.out; omega
      clear hpA hpA' hAtP hAt0 hAtM hx hxm hjl htk hn1 hsn hl2 hsT hsR hwr hpl
      go_wp2_with fail
      refine HMM.out.mono ?_
      rintro e w3 ⟨rfl, v6, v7, hn3, hk3⟩
      have H3 := Lib.hid (And.intro hn3 (HR.out.2.trans hk3))
      clear hn3 hk3 HMM
      go_wp2_with fail
      go_roundw
      case rel => exact ⟨k + 1, _, _, v6, v7, by go_num, hlt2, HS.out, H3.out⟩
      case measure => simp [intOf] <;> omega
    · have hji : ¬ (k : Int) < (d.pn : Int) := by omega
      have hmm : l.take k = l := List.take_of_length_le (by rw [HPN.out]; omega)
      have hres : meetT (.mk d l) T R = if (d.kind = 4 ∨ d.kind = 5) ∧ 0 ≤ d.tail then (T2, addI R2 d.tail) else (T2, R2) := by
        have := HME.out
        rw [hmm] at this
        unfold meetT
        rw [HT1.out, this]
      have HRES := Lib.hid hres
      have HAR := Lib.hid (isRow_any d b o wr ⟨c0, c1, c2, by assumption, c4⟩)
      have HR4 := Lib.hid (show R2.length ≤ 4000000 by
        have h1 := meetTs_len (l.take k) T1 R
        rw [HME.out] at h1
        have h2 : R2.length ≤ R.length + nodesL (l.take k) := h1.2
        have := nodesL_take l k; have := HT.out; omega)
      clear hmm hres hwr HWR
      by_cases hrow : d.kind = 4 ∨ d.kind = 5
      · have hq := HAR.out
        rw [decide_eq_true hrow] at hq
        have HAQ := Lib.hid hq
        clear hq HAR
        by_cases ht : 0 ≤ d.tail
        · have HF := Lib.hid (HRES.out.trans (if_pos ⟨hrow, ht⟩))
          clear hrow
          go_wp2_with fail
          refine HAQ.out.mono ?_
          rintro e w4 ⟨rfl, rfl⟩
          have qt : decide (0 ≤ d.tail) = true := decide_eq_true ht
          go_wp2_with fail
          refine (meets_any B2 R2 v5 d.tail _ HR.out.1.m2 HG.out.2.1 HR4.out).mono ?_
          rintro e w5 ⟨rfl, v6, hn5, hk5⟩
          have H5 := Lib.hid (And.intro (HR.out.1.second hn5 hk5) (HR.out.2.trans (hk5.b.mono HN.out.2.1)))
          clear hn5 hk5
          go_wp2_with fail
          go_returns
          refine ⟨rfl, v4, v6, ?_, H5.out.2⟩
          rw [HF.out]
          exact H5.out.1
        · have HF := Lib.hid (HRES.out.trans (if_neg (fun h => ht h.2)))
          clear hrow
          go_wp2_with fail
          refine HAQ.out.mono ?_
          rintro e w4 ⟨rfl, rfl⟩
          have qt : decide (0 ≤ d.tail) = false := decide_eq_false (by omega)
          go_wp2_with fail
          go_returns
          refine ⟨rfl, v4, v5, ?_, HR.out.2⟩
          rw [HF.out]
          exact HR.out.1
      · have hq := HAR.out
        rw [decide_eq_false hrow] at hq
        have HAQ := Lib.hid hq
        have HF := Lib.hid (HRES.out.trans (if_neg (fun h => hrow h.1)))
        clear hq HAR hrow
        go_wp2_with fail
        refine HAQ.out.mono ?_
        rintro e w4 ⟨rfl, rfl⟩
        go_wp2_with fail
        go_returns
        refine ⟨rfl, v4, v5, ?_, HR.out.2⟩
        rw [HF.out]
        exact HR.out.1

set_option maxRecDepth 100000 in
/-- The walk, at every type. -/
theorem walk_any (w0 : World) (B1 B2 : Nat) (hB1 : w0.heap.size ≤ B1) (hB : B1 ≤ B2) (t : Ty) (hI : t.In w0) : t.Rg → ∀ (T R : List Int) (v1 v2 : Value) (W : World) (b o : Nat), Below w0.heap.size w0 W → M2 W B1 B2 T R v1 v2 → t.d.At W b o → b < B1 → T.length + t.nodes ≤ 4000000 → R.length + t.nodes ≤ 4000000 →
    Calls Tryd.prog 22 #[.pointer (some ⟨b, o, none⟩), meetFn B1, meetFn B2] W fun e w' => e = .returned (.tuple #[]) ∧ ∃ v1' v2', M2 w' B1 B2 (meetT t T R).1 (meetT t T R).2 v1' v2' ∧ Below B1 W w' := by
  induction hI with
  | mk d l lab par cap sub ih =>
  intro hG T R v1 v2 W b o hb hM hA hlt hT hR
  exact walk_one w0 B1 B2 hB1 hB d l (.mk d l lab par cap sub) hG ih T R v1 v2 W b o hb hM hA hlt hT hR
end Go.Proofs.YtklandpagieapaaDoor

namespace Go.Proofs.YtklandpagieapaaDoor
open Go.ChangeShapes Go.WideShapes Go.ChangeAt Go.RowKit Go.Sort Go.Maps
set_option linter.unusedVariables false
set_option linter.unusedSimpArgs false

theorem m2_new {w2 w3 : World} {B1 : Nat} (h1 : MT w2 B1 [] (.slice none 0 0)) (h2 : MT w3 w2.heap.size [] (.slice none 0 0)) (hb : Below w2.heap.size w2 w3) : M2 w3 B1 w2.heap.size [] [] (.slice none 0 0) (.slice none 0 0) := by
  have hl1 := h1.lt
  have hl2 := h2.lt
  refine ⟨h1.below hb, h2, fun g hg => ?_, fun g hg => ?_⟩
  · rcases hg with rfl | rfl | rfl | q
    · exact ⟨by omega, by omega, by omega, by omega, fun e => by cases e⟩
    · exact ⟨by omega, by omega, by omega, by omega, fun e => by cases e⟩
    · exact ⟨by omega, by omega, by omega, by omega, fun e => by cases e⟩
    · cases q
  · rcases hg with rfl | rfl | rfl | q
    · exact ⟨by omega, by omega, by omega, by omega, fun e => by cases e⟩
    · exact ⟨by omega, by omega, by omega, by omega, fun e => by cases e⟩
    · exact ⟨by omega, by omega, by omega, by omega, fun e => by cases e⟩
    · cases q

theorem own_base {w : World} {b b' : Nat} {e : TypeId} {size n : Nat} {v : Value} {xs : List Value} (h : w.ownsRow b e size v n xs) (hb : b' ≤ b) : w.ownsRow b' e size v n xs := by
  refine ⟨h.1, ?_⟩
  rcases h.2 with q | ⟨g, cap, cur, h1, h2, h3⟩
  · exact .inl q
  · exact .inr ⟨g, cap, cur, h1, Nat.le_trans hb h2, h3⟩

set_option maxRecDepth 100000 in
set_option maxHeartbeats 1000000 in
theorem vars_any (w0 : World) (t : Ty) (hI : t.In w0) (hG : t.Rg) (hn : t.nodes ≤ 4000000) (w : World) (hb : Below w0.heap.size w0 w) :
    Calls Tryd.prog 8 #[.agg t.d.arr] w fun e w' => ∃ A1 c1 A2 c2, e = .returned (.tuple #[.slice A1 (meetT t [] []).1.length c1, .slice A2 (meetT t [] []).2.length c2]) ∧
      w'.ownsRow w.heap.size 3 1 (.slice A1 (meetT t [] []).1.length c1) (meetT t [] []).1.length (i64s (meetT t [] []).1) ∧ w'.ownsRow w.heap.size 3 1 (.slice A2 (meetT t [] []).2.length c2) (meetT t [] []).2.length (i64s (meetT t [] []).2) ∧ Below w.heap.size w w' := by
  have HI := Lib.hid (And.intro hI (And.intro hG (And.intro hn hb)))
  have HAt := Lib.hid (box_at w t.d)
  have HB1 := Lib.hid (show RowKit.Below w.heap.size w (w.alloc (.cells t.d.arr 25)) from (Below.refl _ _).alloc (Nat.le_refl _) _)
  have HSZ := Lib.hid (show (w.alloc (.cells t.d.arr 25)).heap.size = w.heap.size + 1 from World.size_alloc _ _)
  clear hI hG hn hb
  go_enter Tryd.func8, Tryd.ntmps8
  go_wp2_with fail
  generalize (w.alloc (.cells t.d.arr 25)) = w1 at *
  refine (meeting_any w1).mono ?_
  rintro e w2 ⟨rfl, hm2, hb2, hs2⟩
  have H2 := Lib.hid (And.intro hm2 (And.intro hb2 hs2))
  clear hm2 hb2 hs2
  obtain ⟨B1, hB1⟩ : ∃ B1, w1.heap.size = B1 := ⟨_, rfl⟩
  rw [hB1] at H2 HSZ ⊢
  go_wp2_with fail
  refine (meeting_any w2).mono ?_
  rintro e w3 ⟨rfl, hm3, hb3, hs3⟩
  have H3 := Lib.hid (And.intro (m2_new H2.out.1 hm3 hb3) (And.intro hb3 hs3))
  have HBW := Lib.hid (show RowKit.Below w.heap.size w w3 from below_then (below_then HB1.out (by rw [hB1]; exact H2.out.2.1)) hb3)
  have HAT := Lib.hid (HAt.out.lower (below_then (show RowKit.Below w1.heap.size w1 w2 by rw [hB1]; exact H2.out.2.1) hb3))
  clear hm3 hb3 hs3 hB1
  have HBB := Lib.hid (show B1 ≤ w2.heap.size by have := H2.out.2.2; omega)
  obtain ⟨B2, hB2⟩ : ∃ B2, w2.heap.size = B2 := ⟨_, rfl⟩
  rw [hB2] at H3 HBB ⊢
  clear hB2 H2
  go_wp2_with fail
  refine (walk_any w0 B1 B2 (by have := HSZ.out; have := HI.out.2.2.2.size; omega) HBB.out t HI.out.1 HI.out.2.1 [] [] _ _ w3 w.heap.size 0 (HI.out.2.2.2.trans (HBW.out.mono HI.out.2.2.2.size)) H3.out.1 ?_ (by have := HSZ.out; omega) (by have := HI.out.2.2.1; simp; omega) (by have := HI.out.2.2.1; simp; omega)).mono ?_
  · exact HAT.out
  rintro e w4 ⟨rfl, v1, v2, hm4, hb4⟩
  have H4 := Lib.hid (And.intro hm4 (HBW.out.trans (hb4.mono (show w.heap.size ≤ B1 by have := HSZ.out; omega))))
  clear hm4 hb4 H3 HBW
  obtain ⟨A1, c1, rfl, _⟩ := own_cap H4.out.1.m1.own
  obtain ⟨A2, c2, rfl, _⟩ := own_cap H4.out.1.m2.own
  unfold tellFn
  go_wp2_with fail
  refine (tells_any B1 _ _ w4 H4.out.1.m1).mono ?_
  rintro e w5 ⟨rfl, rfl⟩
  go_wp2_with fail
  refine (tells_any B2 _ _ _ H4.out.1.m2).mono ?_
  rintro e w6 ⟨rfl, rfl⟩
  go_wp2_with fail
  go_returns
  exact ⟨A1, c1, A2, c2, rfl, own_base H4.out.1.m1.own (by have := HSZ.out; omega), own_base H4.out.1.m2.own (by have := HSZ.out; have := HBB.out; omega), H4.out.2⟩
end Go.Proofs.YtklandpagieapaaDoor

namespace Go.Proofs.YtklandpagieapaaDoor
open Go.ChangeShapes Go.WideShapes Go.ChangeAt Go.RowKit Go.Sort Go.Maps
set_option linter.unusedVariables false
set_option linter.unusedSimpArgs false

mutual
/-- Every node's own fields may be. -/
def Ty.fb : Ty → Prop
  | .mk d l => d.fieldsB = true ∧ fbL l
def fbL : List Ty → Prop
  | [] => True
  | x :: l => x.fb ∧ fbL l
end
theorem fbL_mem : ∀ (l : List Ty) (x : Ty), x ∈ l → fbL l → x.fb
  | y :: l, x, h, hv => by
    unfold fbL at hv
    rcases List.mem_cons.1 h with rfl | h
    · exact hv.1
    · exact fbL_mem l x h hv.2
mutual
theorem mayF_fb : ∀ (t : Ty) (k j : Nat), mayF t k = some j → t.fb
  | .mk d l, k, j, h => by
    unfold mayF at h
    split at h
    · cases h
    split at h
    · rename_i hf
      exact ⟨hf, mayL_fb l _ j h⟩
    · cases h
theorem mayL_fb : ∀ (l : List Ty) (k j : Nat), mayL l k = some j → fbL l
  | [], k, j, h => trivial
  | x :: l, k, j, h => by
    unfold mayL at h
    cases hx : mayF x k with
    | none => rw [hx] at h; cases h
    | some m => rw [hx] at h; exact ⟨mayF_fb x k m hx, mayL_fb l m j h⟩
end

set_option maxRecDepth 100000 in
set_option maxHeartbeats 2000000 in
theorem whole_4 (w0 : World) (c : Cx) (d : TyD) (l : List Ty) (hk : d.kind = 4) (hO : RowOk w0 c d l) : FunAt 27 w0 c d (Ty.mk d l).wt ([123] ++ d.rowTx c.R (txL c.T c.R l) ++ [125]) := by
  intro b b' o' acc w hAt hst hlen
  have H0 := Lib.hid hst
  have HA := Lib.hid hAt
  have HE := Lib.hid (fun W (h : Below w0.heap.size w0 W) => hAt.lower h)
  have HL := Lib.hid hlen
  have HO := Lib.hid hO
  have q1 : (d.kind == 1) = false := by rw [hk]; rfl
  have q2 : (d.kind == 2) = false := by rw [hk]; rfl
  have q7 : (d.kind == 7) = false := by rw [hk]; rfl
  have q6 : (d.kind == 6) = false := by rw [hk]; rfl
  have q3 : (d.kind == 3) = false := by rw [hk]; rfl
  have q4 : (d.kind == 4) = true := by rw [hk]; rfl
  clear hAt hst hlen hk hO
  obtain ⟨c0, c1, c2, c3, c4⟩ := HE.out _ H0.out.all
  go_enter Tryd.func27, Tryd.ntmps27
  go_wp2_with fail
  refine (row_any w0 c d l HO.out [123] [125] rfl rfl b b' o' acc w _ HA.out H0.out HL.out).mono ?_
  rintro e v1 ⟨rfl, hs1⟩
  have H1 := Lib.hid hs1
  clear hs1 c0 c1 c2 c3 c4
  go_wp2_with fail
  go_end0
  exact ⟨rfl, H1.out⟩

set_option maxRecDepth 100000 in
set_option maxHeartbeats 2000000 in
theorem whole_5 (w0 : World) (c : Cx) (d : TyD) (l : List Ty) (hk : d.kind = 5) (hO : RowOk w0 c d l) : FunAt 27 w0 c d (Ty.mk d l).wt ([60] ++ d.rowTx c.R (txL c.T c.R l) ++ [62]) := by
  intro b b' o' acc w hAt hst hlen
  have H0 := Lib.hid hst
  have HA := Lib.hid hAt
  have HE := Lib.hid (fun W (h : Below w0.heap.size w0 W) => hAt.lower h)
  have HL := Lib.hid hlen
  have HO := Lib.hid hO
  have q1 : (d.kind == 1) = false := by rw [hk]; rfl
  have q2 : (d.kind == 2) = false := by rw [hk]; rfl
  have q7 : (d.kind == 7) = false := by rw [hk]; rfl
  have q6 : (d.kind == 6) = false := by rw [hk]; rfl
  have q3 : (d.kind == 3) = false := by rw [hk]; rfl
  have q4 : (d.kind == 4) = false := by rw [hk]; rfl
  have q5 : (d.kind == 5) = true := by rw [hk]; rfl
  clear hAt hst hlen hk hO
  obtain ⟨c0, c1, c2, c3, c4⟩ := HE.out _ H0.out.all
  go_enter Tryd.func27, Tryd.ntmps27
  go_wp2_with fail
  refine (row_any w0 c d l HO.out [60] [62] rfl rfl b b' o' acc w _ HA.out H0.out HL.out).mono ?_
  rintro e v1 ⟨rfl, hs1⟩
  have H1 := Lib.hid hs1
  clear hs1 c0 c1 c2 c3 c4
  go_wp2_with fail
  go_end0
  exact ⟨rfl, H1.out⟩

/-- The writer's answer at every type whose nodes may be, and whose variables are in the lists. -/
theorem whole_any (w0 : World) (c : Cx) (hT : Tab w0) (lT : c.T.length ≤ 4000000) (lR : c.R.length ≤ 4000000) (t : Ty) (hI : t.In w0) : t.fb → t.vin c.T c.R → t.Rg → WholeAt w0 c t := by
  induction hI with
  | mk d l lab par cap sub ih =>
  intro hF hV hG
  have hI : (Ty.mk d l).In w0 := .mk d l lab par cap sub
  have hlen : l.length = d.pn := hI.len
  obtain ⟨hf, hfl⟩ : d.fieldsB = true ∧ fbL l := by unfold Ty.fb at hF; exact hF
  obtain ⟨hv7, hv4, hvl⟩ : (d.kind = 7 → d.n ∈ c.T) ∧ ((d.kind = 4 ∨ d.kind = 5) → 0 ≤ d.tail → d.tail ∈ c.R) ∧ vinL c.T c.R l := by unfold Ty.vin at hV; exact hV
  obtain ⟨gn, gt, gl⟩ : (Lit.int .i64 d.n).wf = true ∧ (Lit.int .i64 d.tail).wf = true ∧ ∀ x ∈ l, Ty.Rg x := by cases hG; exact ⟨by assumption, by assumption, by assumption⟩
  have hW : ∀ x ∈ l, WholeAt w0 c x := fun x hx => ih x hx (fbL_mem l x hx hfl) (vinL_mem l x hx hvl) (gl x hx)
  have Lx : ∀ x : Ty, (x.tx c.T c.R).length + 2 ≤ x.wt := tx_len c.T c.R lT lR
  have ht : (Ty.mk d l).tx c.T c.R = d.txB c.T c.R (txL c.T c.R l) (kdL l) := by unfold Ty.tx; rfl
  have hwt : (Ty.mk d l).wt = 50 + labW d.labels + wtL l := by unfold Ty.wt; rfl
  show FunAt _ w0 c d (Ty.mk d l).wt ((Ty.mk d l).tx c.T c.R)
  rw [ht]
  unfold TyD.fieldsB at hf
  by_cases h4 : d.kind = 4 ∨ d.kind = 5
  · rw [if_pos h4] at hf
    simp only [Bool.and_eq_true, decide_eq_true_eq] at hf
    have hO : RowOk w0 c d l := ⟨hI, hf.1.1.2.symm, hW, hT, hv4 h4, gt, lT, lR⟩
    rcases h4 with h4 | h5
    · have e : d.txB c.T c.R (txL c.T c.R l) (kdL l) = [123] ++ d.rowTx c.R (txL c.T c.R l) ++ [125] := by unfold TyD.txB; rw [if_neg (by omega), if_neg (by omega), if_neg (by omega), if_neg (by omega), if_neg (by omega), if_pos h4]
      rw [e]
      exact whole_4 w0 c d l h4 hO
    · have e : d.txB c.T c.R (txL c.T c.R l) (kdL l) = [60] ++ d.rowTx c.R (txL c.T c.R l) ++ [62] := by unfold TyD.txB; rw [if_neg (by omega), if_neg (by omega), if_neg (by omega), if_neg (by omega), if_neg (by omega), if_neg (by omega)]
      rw [e]
      exact whole_5 w0 c d l h5 hO
  rw [if_neg h4] at hf
  by_cases h7 : d.kind = 7
  · have e : d.txB c.T c.R (txL c.T c.R l) (kdL l) = [39] ++ Lib.itoa (atF c.T d.n 0) := by unfold TyD.txB; rw [if_neg (by omega), if_neg (by omega), if_pos h7]
    rw [e]
    exact whole_7 w0 c d _ h7 hT (hv7 h7) gn lT (by omega)
  rw [if_neg h7] at hf
  by_cases h3 : d.kind = 3
  · rw [if_pos h3] at hf
    have hpn : d.pn = 2 := by
      simp only [TyD.bareB, Bool.and_eq_true, decide_eq_true_eq] at hf
      have := hf.2.1.1
      omega
    obtain ⟨x, y, rfl⟩ : ∃ x y, l = [x, y] := by
      match l, hlen.trans hpn with
      | [x, y], _ => exact ⟨x, y, rfl⟩
    obtain ⟨pb, po, hp, hAt⟩ := hI.part (k := 0) (by show 0 < 2; omega)
    have hx : x.d.At w0 pb po := by have h : x.d.At w0 pb (po + 0 * 5) := hAt 0 (by show 0 < 2; omega); simpa using h
    have hy : y.d.At w0 pb (po + 5) := by have h : y.d.At w0 pb (po + 1 * 5) := hAt 1 (by show 1 < 2; omega); simpa using h
    have e : d.txB c.T c.R (txL c.T c.R [x, y]) (kdL [x, y]) = brkT (decide (x.d.kind = 3)) (x.tx c.T c.R) ++ [32, 45, 62, 32] ++ y.tx c.T c.R := by
      unfold TyD.txB
      rw [if_neg (by omega), if_neg (by omega), if_neg (by omega), if_neg (by omega), if_pos h3]
      rfl
    rw [e]
    exact whole_3 w0 c d _ h3 x y pb po hp hpn hx hy (hW x (by simp)) (hW y (by simp)) (Lx x) (by rw [hwt]; simp only [wtL]; omega)
  rw [if_neg h3] at hf
  by_cases h6 : d.kind = 6
  · rw [if_pos h6] at hf
    have hpn : d.pn = 1 := by
      simp only [TyD.bareB, Bool.and_eq_true, decide_eq_true_eq] at hf
      have := hf.2.1.1
      omega
    obtain ⟨x, rfl⟩ : ∃ x, l = [x] := by
      match l, hlen.trans hpn with
      | [x], _ => exact ⟨x, rfl⟩
    obtain ⟨pb, po, hp, hAt⟩ := hI.part (k := 0) (by show 0 < 1; omega)
    have hx : x.d.At w0 pb po := by have h : x.d.At w0 pb (po + 0 * 5) := hAt 0 (by show 0 < 1; omega); simpa using h
    have e : d.txB c.T c.R (txL c.T c.R [x]) (kdL [x]) = [114, 101, 102, 32] ++ brkT (decide (x.d.kind = 3) || decide (x.d.kind = 6)) (x.tx c.T c.R) := by
      unfold TyD.txB
      rw [if_neg (by omega), if_neg (by omega), if_neg (by omega), if_pos h6]
      rfl
    rw [e]
    exact whole_6 w0 c d _ h6 x pb po hp hpn hx (hW x (by simp)) (Lx x) (by rw [hwt]; simp only [wtL]; omega)
  rw [if_neg h6] at hf
  by_cases h1 : d.kind = 1
  · have e : d.txB c.T c.R (txL c.T c.R l) (kdL l) = [105, 110, 116] := by unfold TyD.txB; rw [if_pos h1]
    rw [e]
    exact whole_1 w0 c d _ h1 (by omega)
  by_cases h2 : d.kind = 2
  · have e : d.txB c.T c.R (txL c.T c.R l) (kdL l) = [116, 101, 120, 116] := by unfold TyD.txB; rw [if_neg h1, if_pos h2]
    rw [e]
    exact whole_2 w0 c d _ h2 (by omega)
  rw [if_neg (by rintro (h | h); exact h1 h; exact h2 h)] at hf
  cases hf

set_option maxRecDepth 100000 in
set_option maxHeartbeats 2000000 in
theorem string_any (B b : Nat) (m1 m2 : Value) (l : Str) (w : World) (h : Wd B b m1 m2 l w) (h0 : l ≠ []) :
    Calls Tryd.prog 28 #[.pointer (some ⟨b, 0, none⟩)] w fun e w' => e = .returned (.string (bstr l)) ∧ Below B w w' := by
  obtain ⟨p, hB, v, hbk, hown, hne⟩ : ∃ p, BA B b p (u8s l) m1 m2 w := by
    rcases h with h | h
    · exact ⟨_, h⟩
    · exact ⟨_, h⟩
  have hl0 : l.length ≠ 0 := by simpa using h0
  rw [u8s_length] at hown
  obtain ⟨g, cap, cur, rfl, hbg, hg, hnc, hcm, hcs, htake⟩ : ∃ g cap cur, v = .slice (some ⟨g, 0, none⟩) l.length cap ∧ B ≤ g ∧ w.heap[g]? = some (.cells cur U8 (0, 0)) ∧ l.length ≤ cap ∧ cap ≤ maxLen ∧ cur.size = cap * 1 ∧ cur.toList.take (l.length * 1) = u8s l := by
    rcases hown.2 with ⟨_, hz⟩ | ⟨g, cap, cur, hv, r⟩
    · exact absurd hz hl0
    · exact ⟨g, cap, cur, hv, r⟩
  have c1 : w.drew.cell? ⟨b, 1, none⟩ = some (.slice (some ⟨g, 0, none⟩) l.length cap) := by
    have : w.drew.heap[b]? = some (.cells #[p, .slice (some ⟨g, 0, none⟩) l.length cap, m1, m2] WT (0, 0)) := hbk
    rw [Lib.cell_of_heap this]; rfl
  have hSD : (Builtin.unsafeSliceData_ #[65] 85 #[.slice (some ⟨g, 0, none⟩) l.length cap]).run Tryd.prog w.drew = .ok (.pointer (some ⟨g, 0, none⟩)) w.drew :=
    Lib.run_unsafeSliceData_row _ _ _ _ _ _ (by omega)
  have hUS : (Builtin.unsafeString_ #[85, 3] 9 #[.pointer (some ⟨g, 0, none⟩), .int .i64 l.length]).run Tryd.prog w.drew = .ok (.string (bstr l)) (w.drew.freeze ⟨g, 0, none⟩ l.length) := by
    refine Lib.run_unsafeString_row w.drew 85 3 9 U8 Tryd.underlying85 (by kernel_rfl) g cur.size (by have hg' : w.drew.heap[g]? = some (.cells cur U8 (0, 0)) := hg; simp [World.shape?, hg']) l h0 (by omega) (by unfold maxLen at hcm; omega) ?_
    intro j x hx
    have hj : j < l.length := (List.getElem?_eq_some_iff.1 hx).1
    have := hown.cells (g := g) rfl j (.int .u8 x.toNat) (by rw [u8s_at l j hj]; rw [List.getElem?_eq_getElem hj] at hx; injection hx with hx; rw [hx])
    exact this
  have HBG := Lib.hid (show Below B w (w.drew.freeze ⟨g, 0, none⟩ l.length) from Lib.below_freeze (Below.drew (Below.refl B w)) (p := ⟨g, 0, none⟩) hbg _)
  clear h hB hbk hown hne hg hnc hcm hcs htake h0 hl0
  go_enter Tryd.func28, Tryd.ntmps28
  go_wp2_with fail
  go_region
  all_goals
    go_wp2_with fail
    go_returns
    exact ⟨rfl, HBG.out⟩
theorem wd_new (w : World) (m1 m2 : Value) : Wd w.heap.size w.heap.size m1 m2 [] (w.alloc (.cells #[.pointer none, .slice none 0 0, m1, m2] WT)) :=
  .inl ⟨Nat.le_refl _, .slice none 0 0, heap_alloc_new w _, World.ownsRow_nil _ _ _ _, fun e => by cases e⟩
theorem brkT_ne (b : Bool) {s : Str} (h : s ≠ []) : brkT b s ≠ [] := by unfold brkT; split <;> simp_all
theorem txB_ne (d : TyD) (T R : List Int) (ps : List Str) (ks : List Int) : d.txB T R ps ks ≠ [] := by
  unfold TyD.txB
  repeat' split
  all_goals simp
theorem tx_ne (T R : List Int) : ∀ t : Ty, t.tx T R ≠ []
  | .mk d l => by unfold Ty.tx; exact txB_ne _ _ _ _ _
end Go.Proofs.YtklandpagieapaaDoor

namespace Go.Proofs.YtklandpagieapaaDoor
open Go.ChangeShapes Go.WideShapes Go.ChangeAt Go.RowKit Go.Sort Go.Maps
set_option linter.unusedVariables false
set_option linter.unusedSimpArgs false

theorem meetT_wf : ∀ (t : Ty), t.Rg → ∀ (T R : List Int), (∀ x ∈ T, (Lit.int .i64 x).wf = true) → (∀ x ∈ R, (Lit.int .i64 x).wf = true) → (∀ x ∈ (meetT t T R).1, (Lit.int .i64 x).wf = true) ∧ (∀ x ∈ (meetT t T R).2, (Lit.int .i64 x).wf = true) := by
  have addw : ∀ {l : List Int} {n : Int}, (∀ x ∈ l, (Lit.int .i64 x).wf = true) → (Lit.int .i64 n).wf = true → ∀ x ∈ addI l n, (Lit.int .i64 x).wf = true := by
    intro l n h hn x hx
    unfold addI at hx
    split at hx
    · exact h x hx
    · rcases List.mem_append.1 hx with hx | hx
      · exact h x hx
      · rw [List.mem_singleton] at hx; subst hx; exact hn
  intro t hG
  induction hG with
  | mk d l hn ht sub ih =>
  intro T R hT hR
  have hT' : ∀ x ∈ (if d.kind = 7 then addI T d.n else T), (Lit.int .i64 x).wf = true := by
    split
    · exact addw hT hn
    · exact hT
  have hl : ∀ (l' : List Ty), (∀ x ∈ l', x ∈ l) → ∀ (T R : List Int), (∀ x ∈ T, (Lit.int .i64 x).wf = true) → (∀ x ∈ R, (Lit.int .i64 x).wf = true) → (∀ x ∈ (meetTs l' T R).1, (Lit.int .i64 x).wf = true) ∧ (∀ x ∈ (meetTs l' T R).2, (Lit.int .i64 x).wf = true) := by
    intro l'
    induction l' with
    | nil => intro _ T R hT hR; exact ⟨hT, hR⟩
    | cons y l' ih' =>
      intro hs T R hT hR
      unfold meetTs
      have h1 := ih y (hs y (by simp)) T R hT hR
      exact ih' (fun x hx => hs x (by simp [hx])) _ _ h1.1 h1.2
  have h2 := hl l (fun x hx => hx) _ R hT' hR
  unfold meetT
  simp only
  split
  · exact ⟨h2.1, addw h2.2 ht⟩
  · exact h2
theorem meetT_small (t : Ty) (h : t.nodes ≤ 4000000) : (meetT t [] []).1.length ≤ 4000000 ∧ (meetT t [] []).2.length ≤ 4000000 := by
  have := meetT_len t [] []
  simp only [List.length_nil, Nat.zero_add] at this
  omega
/-- What typ.Text comes to. -/
def Ty.text (t : Ty) : Str := t.tx (meetT t [] []).1 (meetT t [] []).2
def TxRes (t : Ty) (w : World) (r : Ending) (w' : World) : Prop :=
  r = .returned (.string (bstr (if (mayF t 0).isSome = true then t.text else []))) ∧ Below w.heap.size w w'

set_option maxRecDepth 100000 in
set_option maxHeartbeats 2000000 in
theorem typText_any (t : Ty) (w : World) (hT : Tab w) (hI : t.In w) (hG : t.Rg) (hn : t.nodes ≤ 4000000) (hw : t.wt ≤ CAP) :
    Calls Tryd.prog 12 #[.agg t.d.arr] w fun r w' => TxRes t w r w' := by
  obtain ⟨d, hd⟩ : ∃ d, t.d = d := ⟨_, rfl⟩
  have hb1 : Below w.heap.size w (w.alloc (.cells d.arr 25)) := (Below.refl _ _).alloc (Nat.le_refl _) _
  have hE1 := box_at w d
  have HIN := Lib.hid (hI.lower hb1)
  have HLT := Lib.hid (tab_below hT hb1)
  have HX := Lib.hid (And.intro hG (And.intro hn hw))
  have HD := Lib.hid hd
  have HB1 := Lib.hid hb1
  rw [hd]
  clear hT hI hG hn hw hd hb1
  go_enter Tryd.func12, Tryd.ntmps12
  go_wp2_with fail
  obtain ⟨bx, hbx⟩ : ∃ bx, w.heap.size = bx := ⟨_, rfl⟩
  rw [hbx] at hE1
  try rw [hbx]
  have HBX := Lib.hid hbx
  clear hbx
  generalize (w.alloc (.cells d.arr 25)) = w1 at *
  have HE := Lib.hid (fun W (h : Below w1.heap.size w1 W) => hE1.lower h)
  obtain ⟨c0, c1, c2, c3, c4⟩ := hE1
  have HM := Lib.hid (may_any t w1 HIN.out)
  rw [HD.out] at HM
  go_wp2_with fail
  refine HM.out.mono ?_
  rintro r w2 ⟨rfl, hb2⟩
  have HB2 := Lib.hid hb2
  clear hb2 HM c0 c1 c2 c3 c4
  cases hmay : (mayF t 0).isSome with
  | false =>
    have HN := Lib.hid hmay
    clear hmay
    go_wp2_with fail
    go_returns
    exact ⟨by rw [HN.out]; rfl, below_then HB1.out HB2.out⟩
  | true =>
    have HY := Lib.hid hmay
    have HF := Lib.hid (show t.fb by
      cases hm : mayF t 0 with
      | none => rw [hm] at hmay; cases hmay
      | some j => exact mayF_fb t 0 j hm)
    have HVV := Lib.hid (vars_any w1 t HIN.out HX.out.1 HX.out.2.1 w2 HB2.out)
    rw [HD.out] at HVV
    clear hmay
    obtain ⟨c0, c1, c2, c3, c4⟩ := HE.out _ HB2.out
    go_wp2_with fail
    refine HVV.out.mono ?_
    rintro r w3 ⟨A1, n1, A2, n2, rfl, ho1, ho2, hb3⟩
    have HB3 := Lib.hid (below_then HB2.out hb3)
    have HS := Lib.hid (meetT_small t HX.out.2.1)
    have HWF := Lib.hid (meetT_wf t HX.out.1 [] [] (by simp) (by simp))
    have HND := Lib.hid (meetT_nodup t [] [] List.nodup_nil List.nodup_nil)
    have HVN := Lib.hid (meetT_vin t [] [])
    have HR1 := Lib.hid (Rd.of_own ho1)
    have HR2 := Lib.hid (Rd.of_own ho2)
    have HTX := Lib.hid (show t.text = t.tx (meetT t [] []).1 (meetT t [] []).2 from rfl)
    clear hb3 ho1 ho2 HVV c0 c1 c2 c3 c4
    obtain ⟨T, hTT⟩ : ∃ T, (meetT t [] []).1 = T := ⟨_, rfl⟩
    obtain ⟨R, hRR⟩ : ∃ R, (meetT t [] []).2 = R := ⟨_, rfl⟩
    rw [hTT, hRR] at HS HWF HND HVN HTX
    rw [hTT] at HR1
    rw [hRR] at HR2
    rw [hTT, hRR]
    clear hTT hRR
    go_wp2_with fail
    refine (places_any A1 T T.length n1 w3 HR1.out HS.out.1 HND.out.1 HWF.out.1).mono ?_
    rintro r w4 ⟨m1, rfl, hp1, hb4⟩
    obtain ⟨k1, rfl⟩ : ∃ k1, m1 = .map (some k1) := by obtain ⟨k1, _, h, _⟩ := hp1; exact ⟨k1, h⟩
    have H4 := Lib.hid (And.intro hp1 hb4)
    clear hp1 hb4
    go_wp2_with fail
    refine (places_any A2 R R.length n2 w4 (HR2.out.below H4.out.2) HS.out.2 HND.out.2 HWF.out.2).mono ?_
    rintro r w5 ⟨m2, rfl, hp2, hb5⟩
    obtain ⟨k2, rfl⟩ : ∃ k2, m2 = .map (some k2) := by obtain ⟨k2, _, h, _⟩ := hp2; exact ⟨k2, h⟩
    have HB5 := Lib.hid (below_then (below_then HB3.out H4.out.2) hb5)
    have HPL := Lib.hid (show Pl T (.map (some k1)) w5 ∧ Pl R (.map (some k2)) w5 from ⟨H4.out.1.below hb5, hp2⟩)
    clear hp2 hb5 H4
    have HA5 := Lib.hid (show Below w5.heap.size w5 (w5.alloc (.cells #[.pointer none, .slice none 0 0, (.map (some k1)), (.map (some k2))] WT)) from (Below.refl _ _).alloc (Nat.le_refl _) _)
    have HWH := Lib.hid (whole_any w5 ⟨T, R, (.map (some k1)), (.map (some k2))⟩ (tab_below HLT.out HB5.out) HS.out.1 HS.out.2 t (HIN.out.lower HB5.out) HF.out HVN.out HX.out.1)
    have HS0 := Lib.hid (show St w5 ⟨T, R, (.map (some k1)), (.map (some k2))⟩ w5.heap.size [] (w5.alloc (.cells #[.pointer none, .slice none 0 0, (.map (some k1)), (.map (some k2))] WT)) (w5.alloc (.cells #[.pointer none, .slice none 0 0, (.map (some k1)), (.map (some k2))] WT)) from ⟨wd_new w5 (.map (some k1)) (.map (some k2)), HA5.out, Below.refl _ _, Keeps.refl _, HPL.out.1.below HA5.out, HPL.out.2.below HA5.out⟩)
    have HAT := Lib.hid (show t.d.At w5 bx 0 by rw [HD.out]; exact HE.out w5 HB5.out)
    go_wp2_with fail
    refine (HWH.out.step HS0.out HAT.out (by have := HX.out.2.2; simp only [List.length_nil]; omega)).mono ?_
    rintro r w6 ⟨rfl, hs6⟩
    have H6 := Lib.hid (show Wd w5.heap.size w5.heap.size (.map (some k1)) (.map (some k2)) (t.tx T R) w6 by have := hs6.1; simpa using this)
    have HB6 := Lib.hid (show Below w5.heap.size w5 w6 from hs6.all)
    clear hs6 HWH HS0 HAT
    go_wp2_with fail
    refine (string_any w5.heap.size w5.heap.size (.map (some k1)) (.map (some k2)) (t.tx T R) w6 H6.out (tx_ne T R t)).mono ?_
    rintro r w7 ⟨rfl, hb7⟩
    have HB7 := Lib.hid (below_then HB1.out (below_then HB5.out (HB6.out.trans hb7)))
    clear hb7
    go_wp2_with fail
    go_returns
    exact ⟨by rw [HY.out, if_pos rfl, HTX.out]; rfl, HB7.out⟩
end Go.Proofs.YtklandpagieapaaDoor

namespace Go.Proofs.YtklandpagieapaaDoor
open Go.ChangeShapes Go.WideShapes Go.ChangeAt Go.RowKit Go.Sort Go.Maps Go.Deep
set_option linter.unusedVariables false
set_option linter.unusedSimpArgs false

theorem bulk_pos {H : Type} (d : DataW H) : 1 ≤ Rows.uptoBulk d := by
  cases d with
  | lit l => cases l <;> simp [Rows.uptoBulk]
  | _ => simp [Rows.uptoBulk]
theorem bulk_app {H : Type} (l r : List (DataW H)) : Rows.uptoBulkAll (l ++ r) = Rows.uptoBulkAll l + Rows.uptoBulkAll r := by
  induction l with
  | nil => simp [Rows.uptoBulkAll]
  | cons x l ih => simp only [List.cons_append, Rows.uptoBulkAll, ih]; omega
theorem bulk_mem {H : Type} {d : DataW H} : ∀ {l : List (DataW H)}, d ∈ l → Rows.uptoBulk d ≤ Rows.uptoBulkAll l
  | [], h => by cases h
  | x :: r, h => by
    simp only [Rows.uptoBulkAll]
    rcases List.mem_cons.1 h with rfl | h
    · omega
    · have := bulk_mem h; omega
theorem bulk_len {H : Type} : ∀ (l : List (DataW H)), l.length ≤ Rows.uptoBulkAll l
  | [] => by simp
  | x :: r => by have := bulk_pos x; have := bulk_len r; simp only [Rows.uptoBulkAll, List.length_cons]; omega
theorem nodes_sum : ∀ (l : List Ty), nodesL l = (l.map Ty.nodes).sum
  | [] => rfl
  | x :: r => by simp only [nodesL, List.map_cons, List.sum_cons]; rw [nodes_sum r]

section
variable {H : Type} {enc : TypeId × Value → H} {P : Program} {W : World} {base : Nat} {sp : Nat → Bool} {held : Bool}

/-- A slice's elements under a bound on what is read; 'wt': what an element weighs. -/
theorem open_rowU {α : Type} {cells : α → List Value} {good : α → Prop} (wt : α → Nat) (B : Nat) {t e : TypeId} {size : Nat} (ht : P.underlying t = some (.slice e)) (hC : P.cellsOf e = size) (hsz : ∀ y, (cells y).length = size)
    (hel : ∀ (n : Nat) (cs : List Value) (x : DataW H × List MemPlace), DataW.trod enc P W base sp held n e cs = some x → Rows.uptoBulk x.1 ≤ B → ∃ y, cells y = cs ∧ good y ∧ wt y ≤ Rows.uptoBulk x.1)
    {fuel : Nat} {cs : List Value} {x : DataW H × List MemPlace} (hf : DataW.trod enc P W base sp held fuel t cs = some x) (hB : Rows.uptoBulk x.1 ≤ B + 1) :
    ∃ (A : Option Addr) (n c : Nat) (l : List α), cs = [.slice A n c] ∧ n ≤ c ∧ c ≤ maxLen ∧ l.length = n ∧ Rd W size A n (l.flatMap cells) ∧ (∀ y ∈ l, good y) ∧ n + 1 ≤ Rows.uptoBulk x.1 ∧ (l.map wt).sum + 1 ≤ Rows.uptoBulk x.1 := by
  rcases Go.Deep.open_slice ht hf with ⟨hcs, hx⟩ | ⟨a, n, c, m, k, D, Pl, hcs, _, hl, hm, hmm, hx, hi⟩
  · have := bulk_pos x.1
    exact ⟨none, 0, 0, [], hcs, Nat.le_refl _, by simp [maxLen], rfl, Rd.nil _ _ _, (fun y hy => by cases hy), by omega, by simpa using this⟩
  · rw [hC] at hi
    have hlm : n ≤ m := by rw [hmm]; split <;> omega
    have hbx : Rows.uptoBulkAll ((List.range n).map D) + 1 ≤ Rows.uptoBulk x.1 := by
      rw [hx]
      simp only [Rows.uptoBulk]
      omega
    have hD : ∀ i, i < n → Rows.uptoBulk (D i) ≤ B := fun i hi' => by
      have := bulk_mem (List.mem_map.2 ⟨i, List.mem_range.2 hi', rfl⟩ : D i ∈ (List.range n).map D)
      omega
    have key : ∀ q, q ≤ n → ∃ l : List α, l.length = q ∧ (∀ y ∈ l, good y) ∧ Held W a (l.flatMap cells) ∧ (l.map wt).sum ≤ Rows.uptoBulkAll ((List.range q).map D) := by
      intro q
      induction q with
      | zero => intro _; exact ⟨[], rfl, (fun y hy => by cases hy), (fun j u hu => by simp at hu), by simp⟩
      | succ q ih =>
        intro hq
        obtain ⟨l, hlen, hg, hh, hw⟩ := ih (by omega)
        obtain ⟨cs', hc, htr⟩ := hi q (by omega)
        obtain ⟨y, rfl, hy, hwy⟩ := hel _ _ _ htr (hD q (by omega))
        obtain ⟨_, hcl, hat⟩ := World.cells?_some hc
        have hfl : (l.flatMap cells).length = q * size := by rw [flat_len hsz, hlen]
        refine ⟨l ++ [y], by simp [hlen], ?_, ?_, ?_⟩
        · intro z hz
          rcases List.mem_append.1 hz with hz | hz
          · exact hg z hz
          · simp at hz; subst hz; exact hy
        · intro j u hu
          simp only [List.flatMap_append, List.flatMap_cons, List.flatMap_nil, List.append_nil] at hu
          rw [List.getElem?_append] at hu
          split at hu
          · exact hh j u hu
          · rename_i hj
            rw [hfl] at hu hj
            have hjs : j - q * size < size := by
              have := (List.getElem?_eq_some_iff.1 hu).1; rw [hsz] at this; omega
            have := hat _ hjs
            rw [Go.Proofs.YtklandpagieapaaDoor.add_add, show q * size + (j - q * size) = j from by omega] at this
            rw [this, hu]
        · simp only [List.range_succ, List.map_append, bulk_app, List.sum_append, List.map_cons, List.map_nil, List.sum_cons, List.sum_nil, Rows.uptoBulkAll]
          have h1 : wt y ≤ Rows.uptoBulk (D q) := hwy
          omega
    obtain ⟨l, hlen, hg, hh, hw⟩ := key n (Nat.le_refl _)
    have hln := bulk_len ((List.range n).map D)
    rw [List.length_map, List.length_range] at hln
    exact ⟨some a, n, c, l, hcs, hl, hm, hlen, ⟨by rw [flat_len hsz, hlen], fun _ => ⟨a, rfl, hh⟩⟩, hg, by omega, by omega⟩
end

section
variable {H : Type} {enc : TypeId × Value → H} {W : World} {base : Nat} {sp : Nat → Bool} {held : Bool}
theorem strs_of (l : List Str) : l.flatMap (fun b => [Value.string (bstr b)]) = strs l := by
  induction l with
  | nil => rfl
  | cons x r ih => simp only [List.flatMap_cons, ih]; rfl
theorem openU_strs (B : Nat) {fuel : Nat} {cs : List Value} {x : DataW H × List MemPlace} (hf : DataW.trod enc Tryd.prog W base sp held fuel 23 cs = some x) (hB : Rows.uptoBulk x.1 ≤ B + 1) :
    ∃ (A : Option Addr) (n c : Nat) (l : List Str), cs = [.slice A n c] ∧ n ≤ c ∧ c ≤ maxLen ∧ l.length = n ∧ Rd W 1 A n (strs l) ∧ n + 1 ≤ Rows.uptoBulk x.1 ∧ labS l + 1 ≤ Rows.uptoBulk x.1 := by
  obtain ⟨A, n, c, l, h1, h2, h3, h4, h5, _, h6, h7⟩ := open_rowU (α := Str) (cells := fun b => [.string (bstr b)]) (good := fun _ => True) (fun s => s.length + 1) B Tryd.underlying23 (by kernel_rfl : Tryd.prog.cellsOf 9 = 1) (fun _ => rfl)
    (fun n cs x hx _ => by
      obtain ⟨s, rfl, hd, hw⟩ := DataW.trod_string Tryd.underlying9 hx
      refine ⟨s.data.toList, by rw [bstr_of], trivial, ?_⟩
      rw [hd]
      simp only [Rows.uptoBulk]
      omega) hf hB
  exact ⟨A, n, c, l, h1, h2, h3, h4, by rw [← strs_of]; exact h5, h6, by rw [labS_sum]; exact h7⟩

set_option maxRecDepth 100000 in
theorem trod5 {t : TypeId} {f0 f1 f2 f3 f4 : Field} {fuel : Nat} {cs : List Value} {x : DataW H × List MemPlace} (hs : Tryd.prog.underlying t = some (.struct #[f0, f1, f2, f3, f4])) (hone : oneCellFields Tryd.prog #[f0, f1, f2, f3, f4] = true) (hC : Tryd.prog.cellsOf t = 5) (h : DataW.trod enc Tryd.prog W base sp held fuel t cs = some x) :
    ∃ c0 c1 c2 c3 c4 y0 y1 y2 y3 y4 n, cs = [c0, c1, c2, c3, c4] ∧ x.1 = .agg [y0.1, y1.1, y2.1, y3.1, y4.1] ∧ DataW.trod enc Tryd.prog W base sp held n f0.type [c0] = some y0 ∧ DataW.trod enc Tryd.prog W base sp held n f1.type [c1] = some y1 ∧
      DataW.trod enc Tryd.prog W base sp held n f2.type [c2] = some y2 ∧ DataW.trod enc Tryd.prog W base sp held n f3.type [c3] = some y3 ∧ DataW.trod enc Tryd.prog W base sp held n f4.type [c4] = some y4 := by
  obtain ⟨xs, n, _, hx, hl, hlen, hg⟩ := DataW.trod_struct hs h
  obtain ⟨o0, k0⟩ := hone_of hone 0 f0 rfl
  obtain ⟨o1, k1⟩ := hone_of hone 1 f1 rfl
  obtain ⟨o2, k2⟩ := hone_of hone 2 f2 rfl
  obtain ⟨o3, k3⟩ := hone_of hone 3 f3 rfl
  obtain ⟨o4, k4⟩ := hone_of hone 4 f4 rfl
  match cs, hl.trans hC, xs, hlen with
  | [c0, c1, c2, c3, c4], _, [y0, y1, y2, y3, y4], _ => exact ⟨c0, c1, c2, c3, c4, y0, y1, y2, y3, y4, n, rfl, by rw [hx]; rfl, by simpa [o0, k0] using hg 0 f0 rfl, by simpa [o1, k1] using hg 1 f1 rfl, by simpa [o2, k2] using hg 2 f2 rfl, by simpa [o3, k3] using hg 3 f3 rfl, by simpa [o4, k4] using hg 4 f4 rfl⟩

set_option maxRecDepth 100000 in
theorem openU_ty : ∀ (B : Nat), B ≤ 4000000 → ∀ (fuel : Nat) (cs : List Value) (x : DataW H × List MemPlace), DataW.trod enc Tryd.prog W base sp held fuel 25 cs = some x → Rows.uptoBulk x.1 ≤ B →
    ∃ t : Ty, t.cells = cs ∧ (t.In W ∧ t.Rg) ∧ t.sz ≤ Rows.uptoBulk x.1
  | 0, _, fuel, cs, x, hx, hB => by have := bulk_pos x.1; omega
  | B + 1, hB4, fuel, cs, x, hx, hB => by
    obtain ⟨c0, c1, c2, c3, c4, y0, y1, y2, y3, y4, k, rfl, hxx, e0, e1, e2, e3, e4⟩ := trod5 Tryd.underlying25 (by kernel_rfl) (by kernel_rfl) hx
    have p0 := bulk_pos y0.1
    have p1 := bulk_pos y1.1
    have p4 := bulk_pos y4.1
    rw [hxx] at hB ⊢
    simp only [Rows.uptoBulk, Rows.uptoBulkAll] at hB ⊢
    obtain ⟨kd, h0, _, _⟩ := DataW.trod_int Tryd.underlying3 e0
    obtain ⟨n, h1, _, w1⟩ := DataW.trod_int Tryd.underlying3 e1
    obtain ⟨tl_, h4, _, w4⟩ := DataW.trod_int Tryd.underlying3 e4
    obtain ⟨lA, ln, lc, lb, h3, l1, l2, l3, l4, l5, l6⟩ := openU_strs B e3 (by omega)
    obtain ⟨pA, pn, pc, pl, h2, q1, q2, q3, q4, q5, q6, q7⟩ := open_rowU (α := Ty) (cells := Ty.cells) (good := fun t => t.In W ∧ t.Rg) Ty.sz B Tryd.underlying22 (by kernel_rfl : Tryd.prog.cellsOf 25 = 5) Ty.cells_len
      (fun n cs x hx hb => openU_ty B (by omega) n cs x hx hb) e2 (by omega)
    simp only [List.cons.injEq, and_true] at h0 h1 h2 h3 h4
    subst h0
    subst h1
    subst h2
    subst h3
    subst h4
    refine ⟨.mk ⟨kd, n, pA, pn, pc, lA, ln, lc, lb, tl_⟩ pl, rfl, ⟨.mk _ _ l4 q4 ⟨l1, l2, q1, q2, show ln ≤ 4000000 by omega, show pn ≤ 4000000 by omega⟩ (fun x hx => (q5 x hx).1), .mk _ _ w1 w4 (fun x hx => (q5 x hx).2)⟩, ?_⟩
    show 1 + labS lb + szL pl ≤ _
    rw [szL_sum]
    omega
end
end Go.Proofs.YtklandpagieapaaDoor

namespace Go.Proofs.YtklandpagieapaaDoor
open Go.ChangeShapes Go.WideShapes Go.ChangeAt Go.RowKit Go.Sort
set_option linter.unusedVariables false
set_option linter.unusedSimpArgs false

def TyD.ren (g h : Int → Int) (d : TyD) : TyD := { d with n := if d.kind = 7 then g d.n else d.n, tail := if (d.kind = 4 ∨ d.kind = 5) ∧ 0 ≤ d.tail then h d.tail else d.tail }
mutual
/-- A type with other numbers for its variables. -/
def renT (g h : Int → Int) : Ty → Ty
  | .mk d l => .mk (d.ren g h) (renL g h l)
def renL (g h : Int → Int) : List Ty → List Ty
  | [] => []
  | x :: l => renT g h x :: renL g h l
end
section
variable {g h : Int → Int} (hg : ∀ a b, g a = g b → a = b) (hh : ∀ a b, h a = h b → a = b) (h0 : ∀ a, 0 ≤ a → 0 ≤ h a)
theorem atF_ren {f : Int → Int} (hf : ∀ a b, f a = f b → a = b) (n : Int) : ∀ (l : List Int) (k : Nat), atF (l.map f) (f n) k = atF l n k
  | [], k => rfl
  | x :: l, k => by
    simp only [List.map_cons, atF]
    by_cases e : x = n
    · rw [if_pos e, if_pos (by rw [e])]
    · rw [if_neg e, if_neg (fun q => e (hf _ _ q)), atF_ren hf n l (k + 1)]
theorem addI_ren {f : Int → Int} (hf : ∀ a b, f a = f b → a = b) (l : List Int) (n : Int) : addI (l.map f) (f n) = (addI l n).map f := by
  unfold addI
  by_cases e : n ∈ l
  · rw [if_pos e, if_pos (List.mem_map.2 ⟨n, e, rfl⟩)]
  · rw [if_neg e, if_neg (fun q => by obtain ⟨m, hm, q⟩ := List.mem_map.1 q; exact e (hf _ _ q ▸ hm))]
    simp
theorem kdL_ren : ∀ l : List Ty, kdL (renL g h l) = kdL l
  | [] => rfl
  | .mk d m :: l => by
    show (d.ren g h).kind :: kdL (renL g h l) = d.kind :: kdL l
    rw [kdL_ren l]
    rfl
include hg hh h0
theorem txB_ren (d : TyD) (hk : 1 ≤ d.kind ∧ d.kind ≤ 7) (T R : List Int) (ps : List Str) (ks : List Int) : (d.ren g h).txB (T.map g) (R.map h) ps ks = d.txB T R ps ks := by
  have e1 : (d.ren g h).kind = d.kind := rfl
  have e2 : (d.ren g h).labels = d.labels := rfl
  unfold TyD.txB
  rw [e1]
  by_cases k1 : d.kind = 1
  · rw [if_pos k1, if_pos k1]
  rw [if_neg k1, if_neg k1]
  by_cases k2 : d.kind = 2
  · rw [if_pos k2, if_pos k2]
  rw [if_neg k2, if_neg k2]
  by_cases k7 : d.kind = 7
  · rw [if_pos k7, if_pos k7, show (d.ren g h).n = g d.n from if_pos k7, atF_ren hg]
  rw [if_neg k7, if_neg k7]
  by_cases k6 : d.kind = 6
  · rw [if_pos k6, if_pos k6]
  rw [if_neg k6, if_neg k6]
  by_cases k3 : d.kind = 3
  · rw [if_pos k3, if_pos k3]
  rw [if_neg k3, if_neg k3]
  have key : (d.kind = 4 ∨ d.kind = 5) → (d.ren g h).rowTx (R.map h) ps = d.rowTx R ps := fun k => by
    unfold TyD.rowTx TyD.tailTx
    rw [e2]
    by_cases ht : 0 ≤ d.tail
    · rw [show (d.ren g h).tail = h d.tail from if_pos ⟨k, ht⟩, if_pos ht, if_pos (h0 _ ht), atF_ren hh]
    · rw [show (d.ren g h).tail = d.tail from if_neg (fun q => ht q.2), if_neg ht, if_neg ht]
  by_cases k4 : d.kind = 4
  · rw [if_pos k4, if_pos k4, key (.inl k4)]
  rw [if_neg k4, if_neg k4]
  rw [key (.inr (by omega))]
theorem meetB_ren (d : TyD) (T R : List Int) : (if (d.ren g h).kind = 7 then addI (T.map g) (d.ren g h).n else T.map g) = (if d.kind = 7 then addI T d.n else T).map g ∧ (if ((d.ren g h).kind = 4 ∨ (d.ren g h).kind = 5) ∧ 0 ≤ (d.ren g h).tail then addI (R.map h) (d.ren g h).tail else R.map h) = (if (d.kind = 4 ∨ d.kind = 5) ∧ 0 ≤ d.tail then addI R d.tail else R).map h := by
  have e1 : (d.ren g h).kind = d.kind := rfl
  rw [e1]
  constructor
  · by_cases k : d.kind = 7
    · rw [if_pos k, if_pos k, show (d.ren g h).n = g d.n from if_pos k, addI_ren hg]
    · rw [if_neg k, if_neg k]
  · by_cases k : (d.kind = 4 ∨ d.kind = 5) ∧ 0 ≤ d.tail
    · rw [show (d.ren g h).tail = h d.tail from if_pos k, if_pos ⟨k.1, h0 _ k.2⟩, if_pos k, addI_ren hh]
    · rw [show (d.ren g h).tail = d.tail from if_neg k, if_neg k, if_neg k]
end
mutual
theorem meetT_ren {g h : Int → Int} (hg : ∀ a b, g a = g b → a = b) (hh : ∀ a b, h a = h b → a = b) (h0 : ∀ a, 0 ≤ a → 0 ≤ h a) : ∀ (t : Ty) (T R : List Int), meetT (renT g h t) (T.map g) (R.map h) = ((meetT t T R).1.map g, (meetT t T R).2.map h)
  | .mk d l, T, R => by
    have e1 : (d.ren g h).kind = d.kind := rfl
    unfold renT meetT
    simp only
    rw [(meetB_ren hg hh h0 d T R).1, meetTs_ren hg hh h0 l]
    obtain ⟨B, hB⟩ : ∃ B, meetTs l (if d.kind = 7 then addI T d.n else T) R = B := ⟨_, rfl⟩
    rw [hB]
    have h2 := (meetB_ren hg hh h0 d T B.2).2
    rw [e1] at h2 ⊢
    by_cases k : (d.kind = 4 ∨ d.kind = 5) ∧ 0 ≤ d.tail
    · have k' : (d.kind = 4 ∨ d.kind = 5) ∧ 0 ≤ (d.ren g h).tail := by rw [show (d.ren g h).tail = h d.tail from if_pos k]; exact ⟨k.1, h0 _ k.2⟩
      rw [if_pos k, if_pos k'] at h2
      rw [if_pos k, if_pos k', h2]
    · have k' : ¬ ((d.kind = 4 ∨ d.kind = 5) ∧ 0 ≤ (d.ren g h).tail) := by rw [show (d.ren g h).tail = d.tail from if_neg k]; exact k
      rw [if_neg k, if_neg k']
theorem meetTs_ren {g h : Int → Int} (hg : ∀ a b, g a = g b → a = b) (hh : ∀ a b, h a = h b → a = b) (h0 : ∀ a, 0 ≤ a → 0 ≤ h a) : ∀ (l : List Ty) (T R : List Int), meetTs (renL g h l) (T.map g) (R.map h) = ((meetTs l T R).1.map g, (meetTs l T R).2.map h)
  | [], T, R => rfl
  | x :: l, T, R => by
    simp only [renL, meetTs]
    rw [meetT_ren hg hh h0 x T R]
    exact meetTs_ren hg hh h0 l _ _
end
/-- All kinds are kinds of types. -/
inductive Ty.kd7 : Ty → Prop
  | mk (d : TyD) (l : List Ty) (hk : 1 ≤ d.kind ∧ d.kind ≤ 7) (sub : ∀ x ∈ l, Ty.kd7 x) : Ty.kd7 (.mk d l)
theorem tx_ren {g h : Int → Int} (hg : ∀ a b, g a = g b → a = b) (hh : ∀ a b, h a = h b → a = b) (h0 : ∀ a, 0 ≤ a → 0 ≤ h a) (T R : List Int) {t : Ty} (ht : t.kd7) : (renT g h t).tx (T.map g) (R.map h) = t.tx T R := by
  induction ht with
  | mk d l hk sub ih =>
  have hl : ∀ l' : List Ty, (∀ x ∈ l', x ∈ l) → txL (T.map g) (R.map h) (renL g h l') = txL T R l' := by
    intro l'
    induction l' with
    | nil => intro _; rfl
    | cons x l' ih' =>
      intro hs
      simp only [renL, txL]
      rw [ih x (hs x (by simp)), ih' (fun y hy => hs y (by simp [hy]))]
  unfold renT Ty.tx
  rw [hl l (fun x hx => hx), kdL_ren, txB_ren hg hh h0 d hk]
/-- One text, whatever the numbers are. -/
theorem text_ren {g h : Int → Int} (hg : ∀ a b, g a = g b → a = b) (hh : ∀ a b, h a = h b → a = b) (h0 : ∀ a, 0 ≤ a → 0 ≤ h a) {t : Ty} (ht : t.kd7) :
    (renT g h t).tx (meetT (renT g h t) [] []).1 (meetT (renT g h t) [] []).2 = t.tx (meetT t [] []).1 (meetT t [] []).2 := by
  have e := meetT_ren hg hh h0 t [] []
  rw [List.map_nil, List.map_nil] at e
  rw [e]
  exact tx_ren hg hh h0 _ _ ht
end Go.Proofs.YtklandpagieapaaDoor
