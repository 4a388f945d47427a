/-
  The free names as a list; how deep; how many nodes: by the code.
-/
import Derived.Test.YtaglmmcjhlehjaaGreatDoorExJ
import Derived.Test.YtaglmmcjhlehjaaGreatDoorIter
import Derived.CallsIn
namespace Go.Proofs.YtaglmmcjhlehjaaGreatDoor
open Go.ChangeShapes Go.WideShapes Go.ChangeAt Go.RowKit Go.Sort Go.Maps
set_option linter.unusedVariables false
set_option linter.unusedSimpArgs false

theorem mem_keys {w : World} {B n : Nat} {D : DataW Unit} (h : w.ownsMap (H := Unit) Tryz.prog 9 unitElem B n D) (x : Str) : x ∈ strKeys D ↔ Maps.has D (.string x) = true := by
  obtain ⟨es, rfl, hk⟩ := h.keysOf
  rw [has_eq, List.any_eq_true]
  show x ∈ es.map (fun p => strOf p.1) ↔ _
  rw [List.mem_map]
  constructor
  · rintro ⟨p, hp, e⟩
    obtain ⟨v, hv⟩ := hk p hp
    obtain ⟨y, _, _, hy⟩ := keyStr_inv hv
    refine ⟨p, hp, ?_⟩
    rw [hy] at e ⊢
    have : y = x := e
    rw [this, same_str]; simp
  · rintro ⟨p, hp, e⟩
    obtain ⟨v, hv⟩ := hk p hp
    obtain ⟨y, _, _, hy⟩ := keyStr_inv hv
    refine ⟨p, hp, ?_⟩
    rw [hy, same_str] at e
    rw [hy]
    exact (of_decide_eq_true e)

theorem keys_nodup {w : World} {B n : Nat} {D : DataW Unit} (h : w.ownsMap (H := Unit) Tryz.prog 9 unitElem B n D) : (strKeys D).Nodup := by
  obtain ⟨es, rfl, hpw⟩ := h.tidy lawStr
  obtain ⟨es', he, hk⟩ := h.keysOf
  injection he with he
  subst he
  show (es.map fun p => strOf p.1).Nodup
  refine List.pairwise_map.2 (hpw.imp_of_mem fun {p q} hp hq hne e => hne ?_)
  obtain ⟨v, hv⟩ := hk p hp
  obtain ⟨y, _, _, hy⟩ := keyStr_inv hv
  obtain ⟨v', hv'⟩ := hk q hq
  obtain ⟨y', _, _, hy'⟩ := keyStr_inv hv'
  rw [hy, hy'] at e ⊢
  exact congrArg _ e

/-- Free: a list of the free names. -/
def FR (t : Ex) (w : World) (e : Ending) (w' : World) : Prop := ∃ A n c ss, e = .returned (.slice A n c) ∧ Rd w' 1 A n (strs ss) ∧ n ≤ 4000000 ∧ (∀ x ∈ ss, t.freeB x = true ∧ x.length ≤ maxLen) ∧ (∀ x : Str, x.length ≤ maxLen → t.freeB x = true → x ∈ ss) ∧ Below w.heap.size w w' ∧ ss.Nodup

set_option maxRecDepth 100000 in
set_option maxHeartbeats 2000000 in
theorem Free_any (t : Ex) (w : World) (hIn : t.In w) (hnd : t.nodes ≤ 4000000) :
    Calls Tryz.prog 10 #[.agg t.d.arr] w fun e w' => FR t w e w' := by
  have hb1 : Below w.heap.size w (w.alloc (.cells t.d.arr 25)) := (Below.refl _ _).alloc (Nat.le_refl _) _
  have HM := Lib.hid (free_any _ t (hIn.lower hb1) w.heap.size 0 _ (ex_box w t.d) (Below.refl _ _) hnd)
  have HB := Lib.hid hb1
  have HND := Lib.hid hnd
  clear hb1 hIn hnd
  go_enter Tryz.func10, Tryz.ntmps10
  go_wp2_with fail
  refine HM.out.mono ?_
  rintro e w1 ⟨B, rfl, hB, ⟨D, hown, hQ⟩, hb⟩
  have HK := Lib.hid (callsIn_wide.1 (Tryz.maps_Keys_30 (some B) w1))
  have hsz : Maps.size D ≤ 4000000 := Nat.le_trans hown.size_le HND.out
  have e4 : (4000000 : Nat) ≤ maxLen := by decide
  have HS := Lib.hid (callsIn_wide.1 (Tryz.slices_Sorted_keys_29_30 B t.nodes D unitElem w1 hown (Nat.le_trans hsz e4) (by omega)))
  have H1 := Lib.hid (And.intro hown (And.intro hQ (And.intro hb hsz)))
  clear HM hB hown hQ hb hsz e4
  go_wp2_with fail
  refine HK.out.mono ?_
  rintro e w2 ⟨rfl, rfl⟩
  go_wp2_with fail
  refine HS.out.mono ?_
  rintro e w3 ⟨v, ss, rfl, hp, hrow, _, hb3⟩
  obtain ⟨A, c, rfl, _⟩ := own_cap hrow
  have hb2 : Below w1.heap.size w1 (w1.alloc (.cells #[.map (some B)] 56)) := (Below.refl _ _).alloc (Nat.le_refl _) _
  have hmem : ∀ x, x ∈ (ss.mergeSort (fun x y => decide (x ≤ y)) : List Str) ↔ Maps.has D (.string x) = true := fun x => ((List.mergeSort_perm ss _).mem_iff.trans hp.mem_iff).trans (mem_keys H1.out.1 x)
  have hle := strKeys_le H1.out.1 Tryz.underlying9
  have hpl : ss.length ≤ 4000000 := by
    have := hp.length_eq
    obtain ⟨es, he, _⟩ := H1.out.1.keysOf
    have h2 := H1.out.2.2.2
    rw [he] at this h2
    rw [this]
    simpa [strKeys, Maps.size] using h2
  have hbw : Below w.heap.size w w3 := HB.out.trans ((H1.out.2.2.1.trans (hb2.mono H1.out.2.2.1.size) |>.trans (hb3.mono (Nat.le_trans H1.out.2.2.1.size hb2.size))).mono HB.out.size)
  have HF := Lib.hid (show FR t w (.returned (.slice A ss.length c)) w3 from ⟨A, ss.length, c, ss.mergeSort (fun x y => decide (x ≤ y)), rfl, Rd.of_own hrow, hpl, fun x hx => by
      have hl : x.length ≤ maxLen := hle x (((List.mergeSort_perm ss _).mem_iff.trans hp.mem_iff).1 hx)
      exact ⟨by rw [← H1.out.2.1 x hl]; exact (hmem x).1 hx, hl⟩, fun x hl hx => (hmem x).2 (by rw [H1.out.2.1 x hl]; exact hx), hbw, (List.mergeSort_perm ss _).nodup_iff.2 (hp.nodup_iff.2 (keys_nodup H1.out.1))⟩)
  clear hp hrow hb3 hb2 hmem hle hpl hbw
  go_wp2_with fail
  go_returns
  exact HF.out

set_option maxRecDepth 100000 in
set_option maxHeartbeats 2000000 in
theorem depth_any (w0 : World) (t : Ex) (hIn : t.In w0) :
    ∀ (b o : Nat) (w : World), t.d.At w0 b o → Below w0.heap.size w0 w → t.nodes ≤ 4000000 →
    Calls Tryz.prog 32 #[.pointer (some ⟨b, o, none⟩)] w fun e w' => e = .returned (.int .i64 (t.depth : Int)) ∧ Below w.heap.size w w' := by
  induction hIn with
  | mk d l lab nam par cap sub ih =>
  intro b o w hAt0 hb hnd
  have hAt : d.At w b o := (show d.At w0 b o from hAt0).lower hb
  have hII : (Ex.mk d l).In w0 := .mk d l lab nam par cap sub
  have hlen : l.length = d.pn := by have := par.1; rw [flat_len Ex.cells_len] at this; omega
  have c7 := hAt.c7
  have HAll := Lib.hid (And.intro hb (And.intro hAt (And.intro hAt0 (And.intro hII (And.intro hlen hnd)))))
  have HCAP := Lib.hid cap
  have HIH := Lib.hid (And.intro sub ih)
  clear hb hAt hAt0 hII hlen hnd lab nam par cap sub ih
  go_enter Tryz.func32, Tryz.ntmps32
  go_wp2_with fail
  clear c7
  try go_frame
  go_loopw [10, 3] (fun i a wr => ∃ m q : Nat, i = .int .i64 m ∧ a = .int .i64 q ∧ m ≤ d.pn ∧ q = depthL (l.take m) ∧ q ≤ 4000000 ∧ Below w.heap.size w wr) (fun i _ _ => d.pn - (intOf i).toNat)
  case atStart => exact ⟨0, 0, rfl, rfl, Nat.zero_le _, by simp [depthL], by omega, Below.refl _ _⟩
  case round =>
    obtain ⟨m, q, rfl, rfl, hm, hq, hq4, hbr⟩ := hrel
    have HJ := Lib.hid (And.intro hq hbr)
    clear hq hbr
    by_cases hlt : m < d.pn
    · have hml : m < l.length := by rw [HAll.out.2.2.2.2.1]; exact hlt
      have hb0 : Below w0.heap.size w0 wr := HAll.out.1.trans (HJ.out.2.mono HAll.out.1.size)
      obtain ⟨pb, po, hpA, hAtP⟩ := HAll.out.2.2.2.1.part (k := m) hml
      have hpA' : d.pA = some ⟨pb, po, none⟩ := hpA
      have hAtM : (l[m]).d.At w0 pb (po + m * 8) := hAtP m hml
      have c7 := (HAll.out.2.1.lower HJ.out.2).c7
      rw [hpA'] at c7
      have hlti : (m : Int) < (d.pn : Int) := by omega
      have hmi : (m : Int) ≤ 9223372036854775806 := by have := HCAP.out.2.2.1.2.2; omega
      obtain ⟨x, hx⟩ : ∃ x, l[m] = x := ⟨_, rfl⟩
      rw [hx] at hAtM
      have hxm : x ∈ l := by rw [← hx]; exact List.getElem_mem hml
      have htk : l.take (m + 1) = l.take m ++ [x] := by rw [List.take_succ_eq_append_getElem hml, hx]
      have hnx : 1 + enodesL (l.take m) + x.nodes ≤ 4000000 := by
        have h1 := enodesL_take l (m + 1)
        rw [htk, enodesL_snoc] at h1
        have h2 := HAll.out.2.2.2.2.2
        simp only [Ex.nodes] at h2
        omega
      have hxd := depth_le_nodes x
      have hxb : x.depth ≤ 4000000 := by omega
      have hxi : ((x.depth : Nat) : Int) ≤ 4000000 := by omega
      have HM := Lib.hid (HIH.out.2 x hxm pb (po + m * 8) wr hAtM hb0 (by omega))
      obtain ⟨y, hy⟩ : ∃ y, x.depth = y := ⟨_, rfl⟩
      rw [hy] at HM hxi
      have HS := Lib.hid (And.intro htk (And.intro hnx (And.intro hb0 (And.intro hlt (And.intro hml (And.intro hy hxb))))))
      have hq4i : (q : Int) ≤ 4000000 := by omega

      clear hpA hpA' hAtP hAtM hx hxm htk hnx hml hb0 hxd hxb hy
      go_wp2_with fail
      refine HM.out.mono ?_
      rintro e w3 ⟨rfl, hb3⟩
      have H3 := Lib.hid hb3
      clear HM hb3 c7
      go_wp2_with fail
      go_roundw
      case rel =>
        refine ⟨m + 1, max q y, by go_num, by go_num, HS.out.2.2.2.1, ?_, ?_, HJ.out.2.trans (H3.out.mono HJ.out.2.size)⟩
        · rw [HS.out.1, depthL_snoc, HJ.out.1, HS.out.2.2.2.2.2.1]
        · have := HS.out.2.1; have := HS.out.2.2.2.2.2.1; have := HS.out.2.2.2.2.2.2; have := HJ.out.1; omega
      case measure => simp [intOf] <;> omega
    · have hlti : ¬ (m : Int) < (d.pn : Int) := by omega
      have hq4i : (q : Int) ≤ 4000000 := by omega
      go_wp2_with fail
      go_returns
      have hmm : l.take m = l := List.take_of_length_le (by rw [HAll.out.2.2.2.2.1]; omega)
      have hq := HJ.out.1
      rw [hmm] at hq
      exact ⟨by rw [hq]; simp only [Ex.depth]; first | rfl | (congr 1; done), HJ.out.2⟩

theorem Depth_any (t : Ex) (w : World) (hIn : t.In w) (hnd : t.nodes ≤ 4000000) :
    Calls Tryz.prog 11 #[.agg t.d.arr] w fun e w' => e = .returned (.int .i64 (t.depth : Int)) ∧ Below w.heap.size w w' := by
  have hb1 : Below w.heap.size w (w.alloc (.cells t.d.arr 25)) := (Below.refl _ _).alloc (Nat.le_refl _) _
  have HM := Lib.hid (depth_any _ t (hIn.lower hb1) w.heap.size 0 _ (ex_box w t.d) (Below.refl _ _) hnd)
  have HB := Lib.hid hb1
  clear hb1 hIn hnd
  go_enter Tryz.func11, Tryz.ntmps11
  go_wp2_with fail
  refine HM.out.mono ?_
  rintro e w' ⟨rfl, hb⟩
  go_wp2_with fail
  go_returns
  exact ⟨rfl, HB.out.trans (hb.mono HB.out.size)⟩

set_option maxRecDepth 100000 in
set_option maxHeartbeats 2000000 in
theorem nodes_any (w0 : World) (t : Ex) (hIn : t.In w0) :
    ∀ (b o : Nat) (w : World), t.d.At w0 b o → Below w0.heap.size w0 w → t.nodes ≤ 4000000 →
    Calls Tryz.prog 33 #[.pointer (some ⟨b, o, none⟩)] w fun e w' => e = .returned (.int .i64 (t.nodes : Int)) ∧ Below w.heap.size w w' := by
  induction hIn with
  | mk d l lab nam par cap sub ih =>
  intro b o w hAt0 hb hnd
  have hAt : d.At w b o := (show d.At w0 b o from hAt0).lower hb
  have hII : (Ex.mk d l).In w0 := .mk d l lab nam par cap sub
  have hlen : l.length = d.pn := by have := par.1; rw [flat_len Ex.cells_len] at this; omega
  have c7 := hAt.c7
  have HAll := Lib.hid (And.intro hb (And.intro hAt (And.intro hAt0 (And.intro hII (And.intro hlen hnd)))))
  have HCAP := Lib.hid cap
  have HIH := Lib.hid (And.intro sub ih)
  clear hb hAt hAt0 hII hlen hnd lab nam par cap sub ih
  go_enter Tryz.func33, Tryz.ntmps33
  go_wp2_with fail
  clear c7
  try go_frame
  go_loopw [10, 3] (fun i a wr => ∃ m q : Nat, i = .int .i64 m ∧ a = .int .i64 q ∧ m ≤ d.pn ∧ q = 1 + enodesL (l.take m) ∧ q ≤ 4000000 ∧ Below w.heap.size w wr) (fun i _ _ => d.pn - (intOf i).toNat)
  case atStart => exact ⟨0, 1, rfl, rfl, Nat.zero_le _, by simp [enodesL], by omega, Below.refl _ _⟩
  case round =>
    obtain ⟨m, q, rfl, rfl, hm, hq, hq4, hbr⟩ := hrel
    have HJ := Lib.hid (And.intro hq hbr)
    clear hq hbr
    by_cases hlt : m < d.pn
    · have hml : m < l.length := by rw [HAll.out.2.2.2.2.1]; exact hlt
      have hb0 : Below w0.heap.size w0 wr := HAll.out.1.trans (HJ.out.2.mono HAll.out.1.size)
      obtain ⟨pb, po, hpA, hAtP⟩ := HAll.out.2.2.2.1.part (k := m) hml
      have hpA' : d.pA = some ⟨pb, po, none⟩ := hpA
      have hAtM : (l[m]).d.At w0 pb (po + m * 8) := hAtP m hml
      have c7 := (HAll.out.2.1.lower HJ.out.2).c7
      rw [hpA'] at c7
      have hlti : (m : Int) < (d.pn : Int) := by omega
      have hmi : (m : Int) ≤ 9223372036854775806 := by have := HCAP.out.2.2.1.2.2; omega
      obtain ⟨x, hx⟩ : ∃ x, l[m] = x := ⟨_, rfl⟩
      rw [hx] at hAtM
      have hxm : x ∈ l := by rw [← hx]; exact List.getElem_mem hml
      have htk : l.take (m + 1) = l.take m ++ [x] := by rw [List.take_succ_eq_append_getElem hml, hx]
      have hnx : 1 + enodesL (l.take m) + x.nodes ≤ 4000000 := by
        have h1 := enodesL_take l (m + 1)
        rw [htk, enodesL_snoc] at h1
        have h2 := HAll.out.2.2.2.2.2
        simp only [Ex.nodes] at h2
        omega
      have hxd := depth_le_nodes x
      have hxb : x.nodes ≤ 4000000 := by omega
      have hxi : ((x.nodes : Nat) : Int) ≤ 4000000 := by omega
      have HM := Lib.hid (HIH.out.2 x hxm pb (po + m * 8) wr hAtM hb0 (by omega))
      obtain ⟨y, hy⟩ : ∃ y, x.nodes = y := ⟨_, rfl⟩
      rw [hy] at HM hxi
      have HS := Lib.hid (And.intro htk (And.intro hnx (And.intro hb0 (And.intro hlt (And.intro hml (And.intro hy hxb))))))
      have hq4i : (q : Int) ≤ 4000000 := by omega

      clear hpA hpA' hAtP hAtM hx hxm htk hnx hml hb0 hxd hxb hy
      go_wp2_with fail
      refine HM.out.mono ?_
      rintro e w3 ⟨rfl, hb3⟩
      have H3 := Lib.hid hb3
      clear HM hb3 c7
      go_wp2_with fail
      go_roundw
      case rel =>
        refine ⟨m + 1, q + y, by go_num, by go_num, HS.out.2.2.2.1, ?_, ?_, HJ.out.2.trans (H3.out.mono HJ.out.2.size)⟩
        · rw [HS.out.1, enodesL_snoc, HJ.out.1, HS.out.2.2.2.2.2.1]; omega
        · have := HS.out.2.1; have := HS.out.2.2.2.2.2.1; have := HS.out.2.2.2.2.2.2; have := HJ.out.1; omega
      case measure => simp [intOf] <;> omega
    · have hlti : ¬ (m : Int) < (d.pn : Int) := by omega
      have hq4i : (q : Int) ≤ 4000000 := by omega
      go_wp2_with fail
      go_returns
      have hmm : l.take m = l := List.take_of_length_le (by rw [HAll.out.2.2.2.2.1]; omega)
      have hq := HJ.out.1
      rw [hmm] at hq
      exact ⟨by rw [hq]; simp only [Ex.nodes]; first | rfl | (congr 1; done), HJ.out.2⟩

theorem Nodes_any (t : Ex) (w : World) (hIn : t.In w) (hnd : t.nodes ≤ 4000000) :
    Calls Tryz.prog 12 #[.agg t.d.arr] w fun e w' => e = .returned (.int .i64 (t.nodes : Int)) ∧ Below w.heap.size w w' := by
  have hb1 : Below w.heap.size w (w.alloc (.cells t.d.arr 25)) := (Below.refl _ _).alloc (Nat.le_refl _) _
  have HM := Lib.hid (nodes_any _ t (hIn.lower hb1) w.heap.size 0 _ (ex_box w t.d) (Below.refl _ _) hnd)
  have HB := Lib.hid hb1
  clear hb1 hIn hnd
  go_enter Tryz.func12, Tryz.ntmps12
  go_wp2_with fail
  refine HM.out.mono ?_
  rintro e w' ⟨rfl, hb⟩
  go_wp2_with fail
  go_returns
  exact ⟨rfl, HB.out.trans (hb.mono HB.out.size)⟩
end Go.Proofs.YtaglmmcjhlehjaaGreatDoor
