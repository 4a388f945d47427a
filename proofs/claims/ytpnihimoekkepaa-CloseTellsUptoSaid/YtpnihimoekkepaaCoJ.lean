/-
  The free names of a core expression, by the code.
-/
import Derived.Test.YtpnihimoekkepaaCoH
import Derived.Test.YtpnihimoekkepaaCoB
namespace Go.Proofs.Ytpnihimoekkepaa
open Go.ChangeShapes Go.WideShapes Go.ChangeAt Go.RowKit Go.Sort Go.Maps
open Go.ChangeMaps (setBlock heap_setBlock_same heap_setBlock_other)
set_option linter.unusedVariables false
set_option linter.unusedSimpArgs false

theorem turned_cell {w w' : World} {b : Nat} (h : w.mapTurned w' b) (p : Addr) : w'.cell? p = w.cell? p := by
  obtain ⟨es, clock, es', clock', hb, rfl⟩ := h
  unfold World.cell?
  by_cases e : p.block = b
  · rw [e, heap_setBlock_same hb, hb]
  · rw [heap_setBlock_other hb _ e]
theorem turned_below {a w w' : World} {b M : Nat} (h : w.mapTurned w' b) (hb : RowKit.Below M a w) (hM : M ≤ b) (hs : M ≤ a.heap.size) : RowKit.Below M a w' :=
  below_grown_some hb h.grown hM (Nat.le_trans hs hb.size)
theorem MS.del {w : World} {B n : Nat} {Q : Str → Bool} {D : DataW Unit} {x : Str} (h : w.ownsMap (H := Unit) Try.prog 9 unitElem B n (D.del (.string x))) (hQ : ∀ y : Str, y.length ≤ maxLen → Maps.has D (.string y) = Q y) : MS w B n (fun y => !decide (y = x) && Q y) :=
  ⟨_, h, fun y hy => by rw [has_del_str, hQ y hy]⟩
theorem MS.kept {w w' : World} {B Bp n : Nat} {Q : Str → Bool} (h : MS w B n Q) (ht : w.mapTurned w' Bp) (hne : B ≠ Bp) : MS w' B n Q := by
  obtain ⟨D, h1, h2⟩ := h
  exact ⟨D, h1.kept ht.grown (by intro e; injection e with e; exact hne e), h2⟩
theorem boundF_len {d : ExD} (hs : d.s.length ≤ 4000000) (ht : d.t.length ≤ 4000000) (hn : ∀ s ∈ d.names, s.length ≤ 4000000) (i : Nat) : ∀ y ∈ d.boundF i, y.length ≤ 4000000 := by
  intro y hy
  unfold ExD.boundF at hy
  split at hy
  · simp at hy; rw [hy]; exact hs
  split at hy
  · simp at hy; rcases hy with h | h
    · rw [h]; exact hs
    · rw [h]; exact ht
  split at hy
  · simp at hy; rw [hy]; exact ht
  split at hy
  · exact hn y (List.mem_of_mem_drop (List.mem_of_mem_take hy))
  · simp at hy
theorem MS.own {d : ExD} {w2 : World} {B n : Nat} (h : d.kind = 3) (hs : d.s.length ≤ maxLen) (h2 : w2.ownsMap (H := Unit) Try.prog 9 unitElem B n ((DataW.map []).put (.string d.s) (.agg []))) : MS w2 B n (fun x => decide (d.kind = 3) && decide (x = d.s)) :=
  ⟨_, h2, fun x hx => by rw [has_put_str (D := .map []) (by first | trivial | exact ⟨_, rfl⟩), decide_eq_true h]; show (decide (x = d.s) || false) = _; simp⟩
theorem MS.none {d : ExD} {w2 : World} {B n : Nat} (h : ¬ d.kind = 3) (h2 : w2.ownsMap (H := Unit) Try.prog 9 unitElem B n (.map [])) : MS w2 B n (fun x => decide (d.kind = 3) && decide (x = d.s)) :=
  ⟨_, h2, fun x hx => by rw [decide_eq_false h]; rfl⟩

set_option maxRecDepth 100000 in
set_option maxHeartbeats 2000000 in
theorem free_any (w0 : World) (t : Ex) (hIn : t.In w0) :
    ∀ (b o : Nat) (w : World), t.d.At w0 b o → Below w0.heap.size w0 w → t.nodes ≤ 4000000 →
    Calls Try.prog 29 #[.pointer (some ⟨b, o, none⟩)] w fun e w' => ∃ B, e = .returned (.map (some B)) ∧ w.heap.size ≤ B ∧ MS w' B t.nodes t.freeB ∧ Below w.heap.size w w' := by
  induction hIn with
  | mk d l nam par cap sub ih =>
  intro b o w hAt0 hb hnd
  have hAt : d.At w b o := (show d.At w0 b o from hAt0).lower hb
  have hII : (Ex.mk d l).In w0 := .mk d l nam par cap sub
  have hlen : l.length = d.pn := by have := par.1; rw [flat_len Ex.cells_len] at this; omega
  have c0 := hAt.c0
  have c2 := hAt.c2
  have hbm : Below w.heap.size w (w.alloc (.map #[] 0)) := (Below.refl _ _).alloc (Nat.le_refl _) _
  have c0m := cell_below hbm c0
  have c2m := cell_below hbm c2
  have hown0 := World.ownsMap_made (H := Unit) w Try.prog 9 unitElem
  have hsl : d.s.length ≤ maxLen := by
    have := cap.2.2.1
    have e : (4000000 : Nat) ≤ maxLen := by decide
    omega
  have hmm := @run_makeMap Try.prog
  by_cases hk : d.kind = 3
  · obtain ⟨w2, hrun, hown2, hg2⟩ := hown0.update lawStr Try.underlying63 (by decide) (keyStr d.s hsl) (unitElem_mk (H := Unit))
    have hbw : Below w.heap.size w w2 := below_grown_some hbm hg2 (Nat.le_refl _) hbm.size
    have HX := Lib.hid (And.intro (MS.own hk hsl hown2) hbw)
    have hkb : (d.kind == 3) = true := by simpa using hk
    clear hown0 hown2 hg2 hbw hk hsl hbm c0 c2
    have c5 := (hAt.lower HX.out.2).c5
    go_enter Try.func29, Try.ntmps29
    go_wp2_with fail
    clear hmm hrun c0m c2m hkb c5
    have HAll := Lib.hid (And.intro hb (And.intro hAt (And.intro hAt0 (And.intro hII (And.intro hlen hnd)))))
    have HCAP := Lib.hid cap
    have HIH := Lib.hid (And.intro sub ih)
    clear hb hAt hAt0 hII hlen hnd nam par cap sub ih
    try go_frame
    go_loopw [25, 3] (fun i a wr => ∃ m B : Nat, i = .int .i64 m ∧ a = .map (some B) ∧ m ≤ d.pn ∧ w.heap.size ≤ B ∧ MS wr B (1 + enodesL (l.take m)) (fun x => (decide (d.kind = 3) && decide (x = d.s)) || freeLB d (l.take m) 0 x) ∧ Below w.heap.size w wr) (fun i _ _ => d.pn - (intOf i).toNat)
    case atStart => exact ⟨0, w.heap.size, rfl, rfl, Nat.zero_le _, Nat.le_refl _, HX.out.1.mono (by omega) (fun x _ => by simp [freeLB]), HX.out.2⟩
    case round =>
      obtain ⟨m, B, rfl, rfl, hm, hB, hMS, hbr⟩ := hrel
      have HJ := Lib.hid (And.intro hB (And.intro hMS hbr))
      clear hB hMS hbr
      by_cases hlt : m < d.pn
      · have hml : m < l.length := by rw [HAll.out.2.2.2.2.1]; exact hlt
        have hb0 : Below w0.heap.size w0 wr := HAll.out.1.trans (HJ.out.2.2.mono HAll.out.1.size)
        obtain ⟨pb, po, hpA, hAtP⟩ := HAll.out.2.2.2.1.part (k := m) hml
        have hpA' : d.pA = some ⟨pb, po, none⟩ := hpA
        have hAtM : (l[m]).d.At w0 pb (po + m * 6) := hAtP m hml
        have c5 := (HAll.out.2.1.lower HJ.out.2.2).c5
        rw [hpA'] at c5
        have hlti : (m : Int) < (d.pn : Int) := by omega
        have hmi : (m : Int) ≤ 4000000 := by have := HCAP.out.2.1.2.2; omega
        obtain ⟨x, hx⟩ : ∃ x, l[m] = x := ⟨_, rfl⟩
        rw [hx] at hAtM
        have hxm : x ∈ l := by rw [← hx]; exact List.getElem_mem hml
        have htk : l.take (m + 1) = l.take m ++ [x] := by rw [List.take_succ_eq_append_getElem hml, hx]
        have hnx : 1 + enodesL (l.take m) + x.nodes ≤ 4000000 := by
          have h1 := enodesL_take l (m + 1)
          rw [htk, enodesL_snoc] at h1
          have h2 := HAll.out.2.2.2.2.2
          simp only [Ex.nodes] at h2
          omega
        have HM := Lib.hid (HIH.out.2 x hxm pb (po + m * 6) wr hAtM hb0 (by omega))
        have HS := Lib.hid (And.intro htk (And.intro hnx (And.intro hb0 (And.intro hlt hml))))
        clear hpA hpA' hAtP hAtM hx hxm htk hnx hml hb0
        go_wp2_with fail
        refine HM.out.mono ?_
        rintro e w3 ⟨Bp, rfl, hBp, hMp, hb3⟩
        have hb3w : Below w.heap.size w w3 := HJ.out.2.2.trans (hb3.mono HJ.out.2.2.size)
        have HBD := Lib.hid (bound_any d l b o m (by omega) w3 (HAll.out.2.1.lower hb3w) (HAll.out.2.2.2.1.lower (HS.out.2.2.1.trans (hb3.mono HS.out.2.2.1.size))))
        have H3 := Lib.hid (And.intro hBp (And.intro hMp (And.intro hb3 hb3w)))
        clear HM hBp hMp hb3 hb3w c5
        go_wp2_with fail
        refine HBD.out.mono ?_
        rintro e w4 ⟨A, n, c, rfl, hrd, hn4, hb4⟩
        have hBne : B ≠ Bp := by have := HJ.out.2.1.lt; have := H3.out.1; omega
        have hBp' : w.heap.size ≤ Bp := by have := H3.out.1; have := HJ.out.2.2.size; omega
        have hbl := boundF_len HCAP.out.2.2.1 HCAP.out.2.2.2.1 HCAP.out.2.2.2.2 m
        obtain ⟨bd, hbd⟩ : ∃ bd, d.boundF m = bd := ⟨_, rfl⟩
        rw [hbd] at hrd hbl
        have hln : bd.length = n := rd_len hrd
        have HB4 := Lib.hid (And.intro hrd (And.intro hb4 (And.intro hBne (And.intro hBp' (And.intro hbl (And.intro hbd hln))))))
        clear HBD hrd hb4 hBne hBp' hbl hbd hln
        go_wp2_with fail
        try go_frame
        go_loopw [39] (fun i wq => ∃ k : Nat, i = .int .i64 k ∧ k ≤ n ∧ MS wq Bp x.nodes (fun y => x.freeB y && !decide (y ∈ bd.take k)) ∧ MS wq B (1 + enodesL (l.take m)) (fun y => (decide (d.kind = 3) && decide (y = d.s)) || freeLB d (l.take m) 0 y) ∧ Rd wq 1 A n (strs bd) ∧ Below w.heap.size w wq) (fun i _ => n - (intOf i).toNat)
        case atStart => exact ⟨0, rfl, Nat.zero_le _, (H3.out.2.1.below HB4.out.2.1).mono (Nat.le_refl _) (fun y _ => by simp), (HJ.out.2.1.below H3.out.2.2.1).below HB4.out.2.1, HB4.out.1, H3.out.2.2.2.trans (HB4.out.2.1.mono H3.out.2.2.2.size)⟩
        case round =>
          obtain ⟨k, rfl, hk, hMp, hMB, hrd, hbk⟩ := hrel
          have HK := Lib.hid (And.intro hMB (And.intro hrd hbk))
          by_cases hkn : k < n
          · have hkl : k < bd.length := by rw [HB4.out.2.2.2.2.2.2]; exact hkn
            obtain ⟨ab, ao, rfl, hcs⟩ := hrd.str hkl
            have hc := hcs k hkl
            have hkni : (k : Int) < (n : Int) := by omega
            have hki : (k : Int) ≤ 4000000 := by omega
            obtain ⟨s, hs⟩ : ∃ s, bd[k] = s := ⟨_, rfl⟩
            rw [hs] at hc
            have hsl : s.length ≤ maxLen := by
              have := HB4.out.2.2.2.2.1 s (by rw [← hs]; exact List.getElem_mem hkl)
              have e : (4000000 : Nat) ≤ maxLen := by decide
              omega
            have htk : bd.take (k + 1) = bd.take k ++ [s] := by rw [List.take_succ_eq_append_getElem hkl, hs]
            obtain ⟨Dp, hown, hQp⟩ := hMp
            have HD := Lib.hid (And.intro hown (And.intro hQp (And.intro hsl htk)))
            clear hMB hrd hbk hcs hs hown hQp hsl htk hkl
            go_wp2_with (first
              | (at_delete; refine wpList_delete_own _ rfl _ _ 63 9 rfl _ lawStr Try.underlying63 _ Bp _ Dp rfl HD.out.1 _ _ rfl (keyStr s HD.out.2.2.1) ?_; intro w5 hown5 hturn5)
              | fail)
            have H5 := Lib.hid (And.intro hown5 hturn5)
            clear hown5 hturn5
            go_wp2_with fail
            go_roundw
            case rel =>
              refine ⟨k + 1, by go_num, hkn, ?_, HK.out.1.kept H5.out.2 HB4.out.2.2.1, HK.out.2.1.keep (fun p _ => turned_cell H5.out.2 p), turned_below H5.out.2 HK.out.2.2 HB4.out.2.2.2.1 (Nat.le_refl _)⟩
              refine (MS.del H5.out.1 HD.out.2.1).mono (Nat.le_refl _) (fun y _ => ?_)
              rw [HD.out.2.2.2]
              by_cases e : y = s
              · subst e; simp
              · simp [e]
            case measure => simp [intOf] <;> omega
          · have hkni : ¬ (k : Int) < (n : Int) := by omega
            have hkk : k = n := by omega
            have htk : bd.take k = bd := List.take_of_length_le (by rw [HB4.out.2.2.2.2.2.2]; omega)
            rw [htk] at hMp
            have HUN := Lib.hid (union_any B Bp (1 + enodesL (l.take m)) x.nodes _ _ _ HB4.out.2.2.1 hMB hMp (by have := HS.out.2.1; have e : (4000000 : Nat) < maxLen := (by decide); omega))
            clear hMp hMB hrd hbk htk hkk
            go_wp2_with fail
            refine HUN.out.mono ?_
            rintro e w6 ⟨B', rfl, hB', hMS', hbu⟩
            have H6 := Lib.hid (And.intro hB' (And.intro hMS' (hbu w.heap.size HJ.out.1 HB4.out.2.2.2.1 HK.out.2.2.size)))
            clear HUN hB' hMS' hbu
            go_wp2_with fail
            go_roundw
            case rel =>
              refine ⟨m + 1, B', by go_num, rfl, HS.out.2.2.2.1, ?_, ?_, HK.out.2.2.trans H6.out.2.2⟩
              · have := H6.out.1
                have := HJ.out.1
                have := HB4.out.2.2.2.1
                rcases H6.out.1 with h | h <;> omega
              · refine H6.out.2.1.mono (by rw [HS.out.1, enodesL_snoc]; omega) (fun y _ => ?_)
                rw [HS.out.1, freeLB_snoc, List.length_take, Nat.zero_add, Nat.min_eq_left (Nat.le_of_lt HS.out.2.2.2.2), HB4.out.2.2.2.2.2.1, Bool.or_assoc]
            case measure => simp [intOf] <;> omega
      · have hlti : ¬ (m : Int) < (d.pn : Int) := by omega
        go_wp2_with fail
        go_returns
        have hmm : l.take m = l := List.take_of_length_le (by rw [HAll.out.2.2.2.2.1]; omega)
        have hq := HJ.out.2.1
        rw [hmm] at hq
        exact ⟨B, rfl, HJ.out.1, hq.mono (by simp [Ex.nodes]) (fun x _ => by simp [Ex.freeB]), HJ.out.2.2⟩
  · have HX := Lib.hid (And.intro (MS.none (d := d) hk (hown0.mono (Nat.zero_le 1))) hbm)
    have hkb : (d.kind == 3) = false := by simpa using hk
    clear hown0 hk hsl hbm c0 c2
    have c5 := (hAt.lower HX.out.2).c5
    go_enter Try.func29, Try.ntmps29
    go_wp2_with fail
    clear hmm c0m c2m hkb c5
    have HAll := Lib.hid (And.intro hb (And.intro hAt (And.intro hAt0 (And.intro hII (And.intro hlen hnd)))))
    have HCAP := Lib.hid cap
    have HIH := Lib.hid (And.intro sub ih)
    clear hb hAt hAt0 hII hlen hnd nam par cap sub ih
    try go_frame
    go_loopw [25, 3] (fun i a wr => ∃ m B : Nat, i = .int .i64 m ∧ a = .map (some B) ∧ m ≤ d.pn ∧ w.heap.size ≤ B ∧ MS wr B (1 + enodesL (l.take m)) (fun x => (decide (d.kind = 3) && decide (x = d.s)) || freeLB d (l.take m) 0 x) ∧ Below w.heap.size w wr) (fun i _ _ => d.pn - (intOf i).toNat)
    case atStart => exact ⟨0, w.heap.size, rfl, rfl, Nat.zero_le _, Nat.le_refl _, HX.out.1.mono (by omega) (fun x _ => by simp [freeLB]), HX.out.2⟩
    case round =>
      obtain ⟨m, B, rfl, rfl, hm, hB, hMS, hbr⟩ := hrel
      have HJ := Lib.hid (And.intro hB (And.intro hMS hbr))
      clear hB hMS hbr
      by_cases hlt : m < d.pn
      · have hml : m < l.length := by rw [HAll.out.2.2.2.2.1]; exact hlt
        have hb0 : Below w0.heap.size w0 wr := HAll.out.1.trans (HJ.out.2.2.mono HAll.out.1.size)
        obtain ⟨pb, po, hpA, hAtP⟩ := HAll.out.2.2.2.1.part (k := m) hml
        have hpA' : d.pA = some ⟨pb, po, none⟩ := hpA
        have hAtM : (l[m]).d.At w0 pb (po + m * 6) := hAtP m hml
        have c5 := (HAll.out.2.1.lower HJ.out.2.2).c5
        rw [hpA'] at c5
        have hlti : (m : Int) < (d.pn : Int) := by omega
        have hmi : (m : Int) ≤ 4000000 := by have := HCAP.out.2.1.2.2; omega
        obtain ⟨x, hx⟩ : ∃ x, l[m] = x := ⟨_, rfl⟩
        rw [hx] at hAtM
        have hxm : x ∈ l := by rw [← hx]; exact List.getElem_mem hml
        have htk : l.take (m + 1) = l.take m ++ [x] := by rw [List.take_succ_eq_append_getElem hml, hx]
        have hnx : 1 + enodesL (l.take m) + x.nodes ≤ 4000000 := by
          have h1 := enodesL_take l (m + 1)
          rw [htk, enodesL_snoc] at h1
          have h2 := HAll.out.2.2.2.2.2
          simp only [Ex.nodes] at h2
          omega
        have HM := Lib.hid (HIH.out.2 x hxm pb (po + m * 6) wr hAtM hb0 (by omega))
        have HS := Lib.hid (And.intro htk (And.intro hnx (And.intro hb0 (And.intro hlt hml))))
        clear hpA hpA' hAtP hAtM hx hxm htk hnx hml hb0
        go_wp2_with fail
        refine HM.out.mono ?_
        rintro e w3 ⟨Bp, rfl, hBp, hMp, hb3⟩
        have hb3w : Below w.heap.size w w3 := HJ.out.2.2.trans (hb3.mono HJ.out.2.2.size)
        have HBD := Lib.hid (bound_any d l b o m (by omega) w3 (HAll.out.2.1.lower hb3w) (HAll.out.2.2.2.1.lower (HS.out.2.2.1.trans (hb3.mono HS.out.2.2.1.size))))
        have H3 := Lib.hid (And.intro hBp (And.intro hMp (And.intro hb3 hb3w)))
        clear HM hBp hMp hb3 hb3w c5
        go_wp2_with fail
        refine HBD.out.mono ?_
        rintro e w4 ⟨A, n, c, rfl, hrd, hn4, hb4⟩
        have hBne : B ≠ Bp := by have := HJ.out.2.1.lt; have := H3.out.1; omega
        have hBp' : w.heap.size ≤ Bp := by have := H3.out.1; have := HJ.out.2.2.size; omega
        have hbl := boundF_len HCAP.out.2.2.1 HCAP.out.2.2.2.1 HCAP.out.2.2.2.2 m
        obtain ⟨bd, hbd⟩ : ∃ bd, d.boundF m = bd := ⟨_, rfl⟩
        rw [hbd] at hrd hbl
        have hln : bd.length = n := rd_len hrd
        have HB4 := Lib.hid (And.intro hrd (And.intro hb4 (And.intro hBne (And.intro hBp' (And.intro hbl (And.intro hbd hln))))))
        clear HBD hrd hb4 hBne hBp' hbl hbd hln
        go_wp2_with fail
        try go_frame
        go_loopw [39] (fun i wq => ∃ k : Nat, i = .int .i64 k ∧ k ≤ n ∧ MS wq Bp x.nodes (fun y => x.freeB y && !decide (y ∈ bd.take k)) ∧ MS wq B (1 + enodesL (l.take m)) (fun y => (decide (d.kind = 3) && decide (y = d.s)) || freeLB d (l.take m) 0 y) ∧ Rd wq 1 A n (strs bd) ∧ Below w.heap.size w wq) (fun i _ => n - (intOf i).toNat)
        case atStart => exact ⟨0, rfl, Nat.zero_le _, (H3.out.2.1.below HB4.out.2.1).mono (Nat.le_refl _) (fun y _ => by simp), (HJ.out.2.1.below H3.out.2.2.1).below HB4.out.2.1, HB4.out.1, H3.out.2.2.2.trans (HB4.out.2.1.mono H3.out.2.2.2.size)⟩
        case round =>
          obtain ⟨k, rfl, hk, hMp, hMB, hrd, hbk⟩ := hrel
          have HK := Lib.hid (And.intro hMB (And.intro hrd hbk))
          by_cases hkn : k < n
          · have hkl : k < bd.length := by rw [HB4.out.2.2.2.2.2.2]; exact hkn
            obtain ⟨ab, ao, rfl, hcs⟩ := hrd.str hkl
            have hc := hcs k hkl
            have hkni : (k : Int) < (n : Int) := by omega
            have hki : (k : Int) ≤ 4000000 := by omega
            obtain ⟨s, hs⟩ : ∃ s, bd[k] = s := ⟨_, rfl⟩
            rw [hs] at hc
            have hsl : s.length ≤ maxLen := by
              have := HB4.out.2.2.2.2.1 s (by rw [← hs]; exact List.getElem_mem hkl)
              have e : (4000000 : Nat) ≤ maxLen := by decide
              omega
            have htk : bd.take (k + 1) = bd.take k ++ [s] := by rw [List.take_succ_eq_append_getElem hkl, hs]
            obtain ⟨Dp, hown, hQp⟩ := hMp
            have HD := Lib.hid (And.intro hown (And.intro hQp (And.intro hsl htk)))
            clear hMB hrd hbk hcs hs hown hQp hsl htk hkl
            go_wp2_with (first
              | (at_delete; refine wpList_delete_own _ rfl _ _ 63 9 rfl _ lawStr Try.underlying63 _ Bp _ Dp rfl HD.out.1 _ _ rfl (keyStr s HD.out.2.2.1) ?_; intro w5 hown5 hturn5)
              | fail)
            have H5 := Lib.hid (And.intro hown5 hturn5)
            clear hown5 hturn5
            go_wp2_with fail
            go_roundw
            case rel =>
              refine ⟨k + 1, by go_num, hkn, ?_, HK.out.1.kept H5.out.2 HB4.out.2.2.1, HK.out.2.1.keep (fun p _ => turned_cell H5.out.2 p), turned_below H5.out.2 HK.out.2.2 HB4.out.2.2.2.1 (Nat.le_refl _)⟩
              refine (MS.del H5.out.1 HD.out.2.1).mono (Nat.le_refl _) (fun y _ => ?_)
              rw [HD.out.2.2.2]
              by_cases e : y = s
              · subst e; simp
              · simp [e]
            case measure => simp [intOf] <;> omega
          · have hkni : ¬ (k : Int) < (n : Int) := by omega
            have hkk : k = n := by omega
            have htk : bd.take k = bd := List.take_of_length_le (by rw [HB4.out.2.2.2.2.2.2]; omega)
            rw [htk] at hMp
            have HUN := Lib.hid (union_any B Bp (1 + enodesL (l.take m)) x.nodes _ _ _ HB4.out.2.2.1 hMB hMp (by have := HS.out.2.1; have e : (4000000 : Nat) < maxLen := (by decide); omega))
            clear hMp hMB hrd hbk htk hkk
            go_wp2_with fail
            refine HUN.out.mono ?_
            rintro e w6 ⟨B', rfl, hB', hMS', hbu⟩
            have H6 := Lib.hid (And.intro hB' (And.intro hMS' (hbu w.heap.size HJ.out.1 HB4.out.2.2.2.1 HK.out.2.2.size)))
            clear HUN hB' hMS' hbu
            go_wp2_with fail
            go_roundw
            case rel =>
              refine ⟨m + 1, B', by go_num, rfl, HS.out.2.2.2.1, ?_, ?_, HK.out.2.2.trans H6.out.2.2⟩
              · have := H6.out.1
                have := HJ.out.1
                have := HB4.out.2.2.2.1
                rcases H6.out.1 with h | h <;> omega
              · refine H6.out.2.1.mono (by rw [HS.out.1, enodesL_snoc]; omega) (fun y _ => ?_)
                rw [HS.out.1, freeLB_snoc, List.length_take, Nat.zero_add, Nat.min_eq_left (Nat.le_of_lt HS.out.2.2.2.2), HB4.out.2.2.2.2.2.1, Bool.or_assoc]
            case measure => simp [intOf] <;> omega
      · have hlti : ¬ (m : Int) < (d.pn : Int) := by omega
        go_wp2_with fail
        go_returns
        have hmm : l.take m = l := List.take_of_length_le (by rw [HAll.out.2.2.2.2.1]; omega)
        have hq := HJ.out.2.1
        rw [hmm] at hq
        exact ⟨B, rfl, HJ.out.1, hq.mono (by simp [Ex.nodes]) (fun x _ => by simp [Ex.freeB]), HJ.out.2.2⟩
end Go.Proofs.Ytpnihimoekkepaa
