/-
  The functions of an expression, by the code.
-/
import Derived.Test.YtpnihimoekkepaaCoW
namespace Go.Proofs.Ytpnihimoekkepaa
open Go.ChangeShapes Go.WideShapes Go.ChangeAt Go.RowKit Go.Sort Go.Maps
set_option linter.unusedVariables false
set_option linter.unusedSimpArgs false

theorem exL_nil_len : ∀ {a b : List Ex}, exL a b → a.length = b.length := fun h => exL_len h
mutual
theorem numE_nodes : ∀ (t : Ex) (m : Nat), (numE t m).nodes = t.nodes
  | .mk d l, m => by
    unfold numE Ex.nodes
    have hn : (d.numD m).nn = d.nn := by unfold ExD.numD; split <;> rfl
    have hnn : (d.numD m).names = d.names := by unfold ExD.numD; split <;> rfl
    rw [numL_nodes l]
theorem numL_nodes : ∀ (l : List Ex) (m : Nat), enodesL (numL l m) = enodesL l
  | [], _ => rfl
  | x :: l, m => by
    unfold numL enodesL
    rw [numE_nodes x, numL_nodes l]
end
mutual
theorem fnsE_nodes : ∀ (t : Ex) (m : Nat) (z : Ex), z ∈ fnsE t m → z.nodes ≤ t.nodes
  | .mk d l, m, z, h => by
    unfold fnsE at h
    rcases List.mem_append.1 h with q | q
    · split at q
      · rw [List.mem_singleton] at q
        rw [q, numE_nodes]
        exact Nat.le_refl _
      · cases q
    · have h1 := fnsL_nodes l _ z q
      show z.nodes ≤ 1 + enodesL l
      omega
theorem fnsL_nodes : ∀ (l : List Ex) (m : Nat) (z : Ex), z ∈ fnsL l m → z.nodes ≤ enodesL l
  | [], _, _, h => by unfold fnsL at h; cases h
  | x :: l, m, z, h => by
    unfold fnsL at h
    unfold enodesL
    rcases List.mem_append.1 h with q | q
    · have := fnsE_nodes x _ z q; omega
    · have := fnsL_nodes l _ z q; omega
end
theorem exL_mem : ∀ {a b : List Ex} {z : Ex}, exL a b → z ∈ a → ∃ y ∈ b, z.eqv y
  | x :: a, y :: b, z, h, hz => by
    unfold exL at h
    rcases List.mem_cons.1 hz with rfl | q
    · exact ⟨y, List.mem_cons_self .., h.1⟩
    · obtain ⟨y', hy, he⟩ := exL_mem h.2 q
      exact ⟨y', List.mem_cons_of_mem _ hy, he⟩
  | [], _, _, _, hz => by cases hz
  | _ :: _, [], _, h, _ => by simp [exL] at h
theorem fns_nodes {t : Ex} {zs : List (Nat × Ex)} (h : exL (zs.map Prod.snd) (fnsE t 0)) (hn : t.nodes ≤ 4000000) : ∀ z ∈ zs, z.2.nodes ≤ 4000000 := fun z hz => by
  obtain ⟨y, hy, he⟩ := exL_mem h (List.mem_map_of_mem (f := Prod.snd) hz)
  rw [nodes_eqv _ _ he]
  exact Nat.le_trans (fnsE_nodes t 0 y hy) hn
set_option maxRecDepth 100000 in
set_option maxHeartbeats 4000000 in
theorem Close_any (t : Ex) (W : World) (hI : t.In W) (hnd : t.nodes ≤ 4000000) : Calls Try.prog 7 #[.agg #[.int .i64 t.d.kind, .int .i64 t.d.n, .string (bstr t.d.s), .string (bstr t.d.t), .slice t.d.nA t.d.nn t.d.nc, .slice t.d.pA t.d.pn t.d.pc]] W (ClR t W) := by
  have hb1 : Below W.heap.size W (W.alloc (.cells #[.int .i64 t.d.kind, .int .i64 t.d.n, .string (bstr t.d.s), .string (bstr t.d.t), .slice t.d.nA t.d.nn t.d.nc, .slice t.d.pA t.d.pn t.d.pc] 25)) := (Below.refl _ _).alloc (Nat.le_refl _) _
  have HB1 := Lib.hid hb1
  have HI1 := Lib.hid (show t.In (W.alloc (.cells #[.int .i64 t.d.kind, .int .i64 t.d.n, .string (bstr t.d.s), .string (bstr t.d.t), .slice t.d.nA t.d.nn t.d.nc, .slice t.d.pA t.d.pn t.d.pc] 25)) from hI.lower hb1)
  have HAT := Lib.hid (show t.d.At (W.alloc (.cells #[.int .i64 t.d.kind, .int .i64 t.d.n, .string (bstr t.d.s), .string (bstr t.d.t), .slice t.d.nA t.d.nn t.d.nc, .slice t.d.pA t.d.pn t.d.pc] 25)) W.heap.size 0 from ex_box W t.d)
  have HFR := Lib.hid (show Calls Try.prog 13 #[.agg #[.int .i64 t.d.kind, .int .i64 t.d.n, .string (bstr t.d.s), .string (bstr t.d.t), .slice t.d.nA t.d.nn t.d.nc, .slice t.d.pA t.d.pn t.d.pc]] (W.alloc (.cells #[.int .i64 t.d.kind, .int .i64 t.d.n, .string (bstr t.d.s), .string (bstr t.d.t), .slice t.d.nA t.d.nn t.d.nc, .slice t.d.pA t.d.pn t.d.pc] 25)) (fun e w' => FrR t (W.alloc (.cells #[.int .i64 t.d.kind, .int .i64 t.d.n, .string (bstr t.d.s), .string (bstr t.d.t), .slice t.d.nA t.d.nn t.d.nc, .slice t.d.pA t.d.pn t.d.pc] 25)) e w') from Free_any t _ (hI.lower hb1) hnd)
  have HSZ := Lib.hid (show (W.alloc (.cells #[.int .i64 t.d.kind, .int .i64 t.d.n, .string (bstr t.d.s), .string (bstr t.d.t), .slice t.d.nA t.d.nn t.d.nc, .slice t.d.pA t.d.pn t.d.pc] 25)).heap.size = W.heap.size + 1 from World.size_alloc _ _)
  have HND := Lib.hid hnd
  clear hI hnd hb1
  go_enter Try.func7, Try.ntmps7
  go_upto_region 1 with fail
  generalize (W.alloc (.cells #[.int .i64 t.d.kind, .int .i64 t.d.n, .string (bstr t.d.s), .string (bstr t.d.t), .slice t.d.nA t.d.nn t.d.nc, .slice t.d.pA t.d.pn t.d.pc] 25)) = w1 at *
  obtain ⟨b0, b1, b2, b3, b4, b5⟩ := HAT.out
  go_wp2_with fail
  refine HFR.out.mono ?_
  rintro e J ⟨A, n, c, ss, rfl, hrow, hn4, hf1, hf2, hbj, _⟩
  clear b0 b1 b2 b3 b4 b5 HFR
  have HJ := Lib.hid hbj
  have hsl : ss.length = n := by have := hrow.1; rw [strs_length] at this; omega
  by_cases hn : 0 < n
  · have hni : (0 : Int) < (n : Int) := by omega
    have HEX := Lib.hid (show ∃ x, t.freeB x = true from by
      have h0 : 0 < ss.length := by omega
      exact ⟨ss[0], (hf1 _ (List.getElem_mem h0)).1⟩)
    clear hrow hf1 hf2 hbj hsl
    go_wp2_with fail
    go_returns
    exact ⟨below_then HB1.out HJ.out, .inl ⟨rfl, .inl HEX.out⟩⟩
  · have hni : ¬ (0 : Int) < (n : Int) := by omega
    have HNF := Lib.hid (show ∀ x : Str, x.length ≤ maxLen → t.freeB x = false from fun x hx => by
      cases hq : t.freeB x with
      | false => rfl
      | true =>
        have h1 := List.length_pos_of_mem (hf2 x hx hq)
        omega)
    have HNL := Lib.hid (hasNameless_any w1 t HI1.out W.heap.size 0 J HAT.out hbj)
    clear hrow hf1 hf2 hbj hsl
    go_wp2_with fail
    refine HNL.out.mono ?_
    rintro e J2 ⟨rfl, hb2⟩
    have HJ2 := Lib.hid (below_then HJ.out hb2)
    clear hb2 HNL
    cases hnl : t.nlB with
    | true =>
      have HNB := Lib.hid hnl
      clear hnl
      go_wp2_with fail
      go_returns
      exact ⟨below_then HB1.out HJ2.out, .inl ⟨rfl, .inr HNB.out⟩⟩
    | false =>
      have HNB := Lib.hid hnl
      clear hnl
      have HFN := Lib.hid (functions_any w1 t HI1.out HND.out W.heap.size 0 J2 HAT.out HJ2.out)
      go_wp2_with fail
      refine HFN.out.mono ?_
      rintro e J3 ⟨rfl, hb3⟩
      have HJ3 := Lib.hid (below_then HJ2.out hb3)
      have hc4 : t.cnt ≤ 4000000 := Nat.le_trans (cnt_nodes t) HND.out
      clear hb3 HFN
      by_cases hc : 2000 < 1 + t.cnt
      · have hci : (2000 : Int) < 1 + (t.cnt : Int) := by omega
        have HC := Lib.hid hc
        clear hc
        go_wp2_with fail
        go_returns
        exact ⟨below_then HB1.out HJ3.out, .inr (.inl ⟨rfl, HC.out, HNF.out, HNB.out⟩)⟩
      · have hci : ¬ (2000 : Int) < 1 + (t.cnt : Int) := by omega
        have HC := Lib.hid (show 1 + t.cnt ≤ 2000 by omega)
        clear hc
        have hb4 : Below J3.heap.size J3 (J3.alloc (.cells #[.slice none 0 0] 49)) := (Below.refl _ _).alloc (Nat.le_refl _) _
        have HJ4 := Lib.hid (below_then HJ3.out hb4)
        have HCS := Lib.hid (show CS (J3.alloc (.cells #[.slice none 0 0] 49)) J3.heap.size (.slice none 0 0) [] from ⟨heap_alloc_new J3 _, World.ownsRow_nil _ _ _ _⟩)
        have HNU := Lib.hid (numbered_any w1 J3.heap.size HJ3.out.size t HI1.out W.heap.size 0 (.slice none 0 0) [] (J3.alloc (.cells #[.slice none 0 0] 49)) HAT.out HJ4.out HCS.out (by show 0 + t.cnt ≤ 4000000; omega))
        have HPS := Lib.hid (show J3.heap.size < (J3.alloc (.cells #[.slice none 0 0] 49)).heap.size from by rw [World.size_alloc]; omega)
        clear hb4
        go_wp2_with fail
        refine HNU.out.mono ?_
        rintro e w5 ⟨y, v, zs, rfl, hy, heq, hcs, hz, hze, hkw⟩
        have hb5 : Below w1.heap.size w1 w5 := hkw.below HJ4.out HJ3.out.size HPS.out (fun q hq => by cases hq)
        have hb6 : Below w5.heap.size w5 (w5.alloc (.cells #[.int .i64 y.d.kind, .int .i64 y.d.n, .string (bstr y.d.s), .string (bstr y.d.t), .slice y.d.nA y.d.nn y.d.nc, .slice y.d.pA y.d.pn y.d.pc] 25)) := (Below.refl _ _).alloc (Nat.le_refl _) _
        have HY := Lib.hid (show y.In (w5.alloc (.cells #[.int .i64 y.d.kind, .int .i64 y.d.n, .string (bstr y.d.s), .string (bstr y.d.t), .slice y.d.nA y.d.nn y.d.nc, .slice y.d.pA y.d.pn y.d.pc] 25)) ∧ y.eqv (numE t 0) from ⟨hy.inn.lower hb6, heq⟩)
        have HZ := Lib.hid (show ∀ z ∈ zs, z.2.In (w5.alloc (.cells #[.int .i64 y.d.kind, .int .i64 y.d.n, .string (bstr y.d.s), .string (bstr y.d.t), .slice y.d.nA y.d.nn y.d.nc, .slice y.d.pA y.d.pn y.d.pc] 25)) ∧ z.2.d.At (w5.alloc (.cells #[.int .i64 y.d.kind, .int .i64 y.d.n, .string (bstr y.d.s), .string (bstr y.d.t), .slice y.d.nA y.d.nn y.d.nc, .slice y.d.pA y.d.pn y.d.pc] 25)) z.1 0 from fun z hzm => ⟨(hz z hzm).y.inn.lower hb6, (hz z hzm).at_.lower hb6⟩)
        have HZE := Lib.hid (show exL (zs.map Prod.snd) (fnsE t 0) from hze)
        have HC6 := Lib.hid (show CS (w5.alloc (.cells #[.int .i64 y.d.kind, .int .i64 y.d.n, .string (bstr y.d.s), .string (bstr y.d.t), .slice y.d.nA y.d.nn y.d.nc, .slice y.d.pA y.d.pn y.d.pc] 25)) J3.heap.size v (zs.map ptr) from hcs.below hb6)
        have HB6 := Lib.hid (below_then hb5 hb6)
        obtain ⟨t0, t1, t2, t3, t4, t5⟩ := cells6 (heap_alloc_new w5 (.cells #[.int .i64 y.d.kind, .int .i64 y.d.n, .string (bstr y.d.s), .string (bstr y.d.t), .slice y.d.nA y.d.nn y.d.nc, .slice y.d.pA y.d.pn y.d.pc] 25))
        clear hy heq hcs hz hze hkw hb5 hb6 HNU HCS HPS HJ4
        go_upto_region 8 with fail
        clear t0 t1 t2 t3 t4 t5
        have HS6 := Lib.hid (show (w5.alloc (.cells #[.int .i64 y.d.kind, .int .i64 y.d.n, .string (bstr y.d.s), .string (bstr y.d.t), .slice y.d.nA y.d.nn y.d.nc, .slice y.d.pA y.d.pn y.d.pc] 25)).heap.size = w5.heap.size + 1 from World.size_alloc _ _)
        generalize (w5.alloc (.cells #[.int .i64 y.d.kind, .int .i64 y.d.n, .string (bstr y.d.s), .string (bstr y.d.t), .slice y.d.nA y.d.nn y.d.nc, .slice y.d.pA y.d.pn y.d.pc] 25)) = w6 at *
        have HCL := Lib.hid (show ClS w6.heap.size w6 zs ⟨[], [], none, 0, 0, [], y⟩ 0 [] (.slice (some ⟨w6.heap.size, 0, none⟩) 1 1) (w6.alloc (.cells #[.string ⟨#[]⟩, .string ⟨#[]⟩, .slice none 0 0, .int .i64 y.d.kind, .int .i64 y.d.n, .string (bstr y.d.s), .string (bstr y.d.t), .slice y.d.nA y.d.nn y.d.nc, .slice y.d.pA y.d.pn y.d.pc] 37)) from ClS.start w6 zs ⟨[], [], none, 0, 0, [], y⟩)
        generalize (w6.alloc (.cells #[.string ⟨#[]⟩, .string ⟨#[]⟩, .slice none 0 0, .int .i64 y.d.kind, .int .i64 y.d.n, .string (bstr y.d.s), .string (bstr y.d.t), .slice y.d.nA y.d.nn y.d.nc, .slice y.d.pA y.d.pn y.d.pc] 37)) = w7 at *
        obtain ⟨Av, cv, hvv, _⟩ := own_cap HC6.out.own
        rw [List.length_map] at hvv
        subst hvv
        have HMT := Lib.hid (show Rd w6 1 Av zs.length (zs.map ptr) from by have h := HC6.out.own; rw [List.length_map] at h; exact Rd.of_own h)
        have hcp : w7.cell? ⟨J3.heap.size, 0, none⟩ = some (.slice Av zs.length cv) := by rw [Lib.cell_of_heap ((HCL.out.b.block _ (lt_of_heap HC6.out.c)).trans HC6.out.c)]; rfl
        have HZL := Lib.hid (show zs.length ≤ 2000 from by
          have h1 := exL_len HZE.out
          rw [List.length_map, fnsE_len] at h1
          have h2 := HC.out
          omega)
        have HNZ := Lib.hid (show ∀ z ∈ zs, z.2.nodes ≤ 4000000 from fun z hz => fns_nodes HZE.out HND.out z hz)
        go_wp2_with fail
        clear hcp
        go_loopw [6, 28] (fun fv i wr => ∃ (k : Nat) (fs : List Fu), i = .int .i64 k ∧ k ≤ zs.length ∧ ClS w6.heap.size w6 zs ⟨[], [], none, 0, 0, [], y⟩ k fs fv wr) (fun _ i _ => zs.length - (intOf i).toNat)
        case atStart => exact ⟨0, [], rfl, Nat.zero_le _, by rw [← HS6.out]; exact HCL.out⟩
        case round =>
          obtain ⟨k, fs, rfl, hk, hS⟩ := hrel
          obtain ⟨A1, c1, rfl, hc1⟩ := own_cap hS.own
          have HS := Lib.hid hS
          by_cases hlt : k < zs.length
          · have HLT := Lib.hid hlt
            obtain ⟨mb, mo, hmA, _, hmc⟩ := (HMT.out.below HS.out.b).base (by rw [List.length_map]; omega)
            obtain ⟨z, hz⟩ : ∃ z, zs[k]? = some z := ⟨zs[k], List.getElem?_eq_getElem hlt⟩
            have hzm : z ∈ zs := List.mem_of_getElem? hz
            have HZK := Lib.hid hz
            have m0 : wr.cell? ⟨mb, mo + k, none⟩ = some (.pointer (some ⟨z.1, 0, none⟩)) := hmc k _ (by rw [List.getElem?_map, hz]; rfl)
            have HFU := Lib.hid (fun_any z.2 z.1 wr ((HZ.out z hzm).1.lower HS.out.b) ((HZ.out z hzm).2.lower HS.out.b) (HNZ.out z hzm))
            have hki : (k : Int) < (zs.length : Int) := by omega
            have hk0 : (0 : Int) ≤ (k : Int) := by omega
            have hk4 : (k : Int) ≤ 2000 := by have := HZL.out; omega
            have hB6 : w6.heap.size ≤ wr.heap.size := HS.out.b.size
            have HAV := Lib.hid hmA
            clear hmc hz hzm hS hlt hc1
            subst hmA
            go_wp2_with fail
            refine HFU.out.mono ?_
            rintro e w8 ⟨f, rfl, hin, hs1, ht1, hye, hcap, hb8, hbl⟩
            have HF8 := Lib.hid (And.intro hin (And.intro hbl hb8))
            have HFP := Lib.hid (show FunP z.2 f from ⟨hs1, ht1, hye, hcap⟩)
            have HO8 := Lib.hid (own_below (own_below HS.out.own hb8) (show Below w8.heap.size w8 (w8.alloc (.cells f.arr 37)) from (Below.refl _ _).alloc (Nat.le_refl _) _))
            have hB8 : w6.heap.size ≤ w8.heap.size := Nat.le_trans hB6 hb8.size
            clear hin hbl hb8 hs1 ht1 hye hcap HFU m0
            go_wp2_with (at_builtin; refine wpList_app elFun _ rfl (.tmp 32) (.tmp 35) rfl w6.heap.size (.slice A1 (k + 1) c1) (k + 1) _ rfl HO8.out (some ⟨w8.heap.size, 0, none⟩) 1 1 _ rfl (Rd.lit w8 f.arr _ rfl) (fu_ones f) (by omega) (by rw [World.size_alloc]; omega) ?_; intro v9 w9 hown9 hb9 hg9 ho9; have HST := Lib.hid (HS.out.step HZK.out HF8.out.1 HF8.out.2.1 HFP.out HF8.out.2.2 hown9 hb9 hg9 ho9); clear hown9 hb9 hg9 ho9)
            go_roundw
            case rel => exact ⟨k + 1, fs ++ [f], by go_num, HLT.out, HST.out⟩
            case measure => have := HLT.out; simp [intOf] <;> omega
          · have hki : ¬ (k : Int) < (zs.length : Int) := by omega
            obtain rfl : k = zs.length := by omega
            have HFL := Lib.hid hS.len
            clear hS hc1
            go_wp2_with fail
            go_returns
            refine ⟨below_then (below_then HB1.out HB6.out) HS.out.b, .inr (.inr ⟨⟨[], [], none, 0, 0, [], y⟩, fs, zs.map Prod.snd, A1, c1, by rw [HFL.out]; rfl, ?_, fun f hf => ?_, rfl, rfl, rfl, rfl, HY.out.2, HZE.out, by rw [List.length_map, HFL.out], fun z hz => ?_, fun i z f h1 h2 => ?_, HNF.out, HNB.out, HC.out⟩)⟩
            · have h := HS.out.own
              rw [HFL.out]
              exact Rd.of_own h
            · rcases List.mem_cons.1 hf with rfl | q
              · exact ⟨Rd.nil _ _ _, ⟨Nat.le_refl _, Nat.zero_le _, Nat.zero_le _⟩, HY.out.1.lower HS.out.b⟩
              · exact HS.out.inn f q
            · obtain ⟨z', hz', rfl⟩ := List.mem_map.1 hz
              exact (HZ.out z' hz').1.nm
            · rw [List.getElem?_map] at h1
              cases hz : zs[i]? with
              | none => rw [hz] at h1; cases h1
              | some z' =>
                rw [hz] at h1
                injection h1 with h1
                rw [← h1]
                exact HS.out.fp i z' f hz h2
end Go.Proofs.Ytpnihimoekkepaa
