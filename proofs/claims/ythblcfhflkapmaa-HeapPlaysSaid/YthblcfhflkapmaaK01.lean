/-
  The document's heap is collected: the objects as they are then, and the end.
  The document's heap is collected: the order in which objects are reached, their places.
  The document's heap is collected.
-/
import Derived.Test.YthblcfhflkapmaaK00
import Derived.StillTailTactics
namespace Go.Proofs.Ythblcfhflkapmaa
open Go Go.ChangeShapes Go.WideShapes Go.ChangeAt Go.RowKit Go.Sort
set_option linter.unusedVariables false
set_option linter.unusedSimpArgs false

theorem elObj : ElemTy Try.prog 31 42 (.agg #[.int .i64 0, .int .i64 0, .slice none 0 0]) 3 40 :=
  ⟨Try.underlying31, by kernel_rfl, rfl, by decide, by decide⟩
theorem ro_ones (rs : List RO) : ∀ u ∈ rs.flatMap RO.cells, u.oneCell' = true := by
  intro u hu
  obtain ⟨r, _, h⟩ := List.mem_flatMap.1 hu
  simp only [RO.cells, List.mem_cons, List.not_mem_nil, or_false] at h
  rcases h with rfl | rfl | rfl <;> rfl
/-- The objects that were made so far, and their words, each in a row of its own. -/
structure RS (L : List Ob) (order : List Nat) (w0 w : World) (y : Value) (k : Nat) (rs : List RO) : Prop where
  row : w.ownsRow w0.heap.size OTyp 3 y k (rs.flatMap RO.cells)
  ln : rs.length = k
  el : ∀ (i : Nat) (r : RO), rs[i]? = some r → ∃ j, order[i]? = some j ∧ r.o = ((ob L j).1, (ob L j).2.map (turn L order)) ∧ r.place = (place (obs L order) i : Nat)
  ws : ∀ r ∈ rs, w.ownsRow w0.heap.size DTy 2 (.slice r.A r.o.2.length r.c) r.o.2.length (wcells r.o.2)
  nd : ∀ (i j : Nat) (y z : RO) (a b : Addr), rs[i]? = some y → rs[j]? = some z → i ≠ j → y.A = some a → z.A = some b → a.block ≠ b.block
  nx : ∀ r ∈ rs, ∀ a, r.A = some a → y.ownBlock ≠ some a.block
  bl : Below w0.heap.size w0 w
theorem ro_own {A : Option Addr} {n c g : Nat} : (Value.slice A n c).ownBlock = some g ↔ ∃ a, A = some a ∧ a.block = g := by
  cases A with
  | none => simp [Value.ownBlock]
  | some a => simp [Value.ownBlock]
section
variable {B mb : Nat} {half runs : Int} {L : List Ob} {order : List Nat} {roots : List Wd} {x : Value} {xs : List RO} {w0 w w1 w2 : World} {y y' : Value} {k : Nat} {rs : List RO}
theorem RS.start (w0 : World) (w : World) (h : Below w0.heap.size w0 w) : RS L order w0 w (.slice none 0 0) 0 [] :=
  ⟨World.ownsRow_nil _ _ _ _, rfl, (fun i r h => by simp at h), (fun r h => nomatch h), (fun i j y z a b h => by simp at h), (fun r h => nomatch h), h⟩
theorem RS.below (h : RS L order w0 w y k rs) (hb : Below w.heap.size w w1) : RS L order w0 w1 y k rs :=
  ⟨own_below h.row hb, h.ln, h.el, fun r hr => own_below (h.ws r hr) hb, h.nd, h.nx, h.bl.trans (hb.mono h.bl.size)⟩
theorem RS.more (h : RS L order w0 w y k rs) (hb : Below w.heap.size w w1) {r : RO} (hr : w1.ownsRow w.heap.size DTy 2 (.slice r.A r.o.2.length r.c) r.o.2.length (wcells r.o.2)) {j : Nat} (hj : order[k]? = some j) (ho : r.o = ((ob L j).1, (ob L j).2.map (turn L order))) (hp : r.place = (place (obs L order) k : Nat))
    (hw : w2.ownsRow w0.heap.size OTyp 3 y' (k + 1) (rs.flatMap RO.cells ++ r.cells)) (hg : w1.grownBy w2 y.ownBlock) (hy : y'.ownBlock = y.ownBlock ∨ ∃ g, y'.ownBlock = some g ∧ w1.heap.size ≤ g) (hB : Below w0.heap.size w1 w2) : RS L order w0 w2 y' (k + 1) (rs ++ [r]) := by
  have h1 := h.below hb
  have hys : ∀ g, y.ownBlock = some g → g < w.heap.size := fun g hg' => (h.row.lt g hg').2
  have hold : ∀ z ∈ rs, ∀ a, z.A = some a → a.block < w.heap.size := fun z hz a ha => ((h.ws z hz).lt a.block (by rw [ha]; rfl)).2
  have hnew : ∀ a, r.A = some a → w.heap.size ≤ a.block ∧ a.block < w1.heap.size := fun a ha => hr.lt a.block (by rw [ha]; rfl)
  have hall : ∀ z ∈ rs ++ [r], w1.ownsRow w0.heap.size DTy 2 (.slice z.A z.o.2.length z.c) z.o.2.length (wcells z.o.2) ∧ ∀ a, z.A = some a → y.ownBlock ≠ some a.block ∧ a.block < w1.heap.size := by
    intro z hz
    rcases List.mem_append.1 hz with hz | hz
    · exact ⟨h1.ws z hz, fun a ha => ⟨h.nx z hz a ha, Nat.lt_of_lt_of_le (hold z hz a ha) hb.size⟩⟩
    · rw [List.mem_singleton.1 hz]
      exact ⟨own_mono hr h.bl.size, fun a ha => ⟨fun e => by have := hys _ e; have := (hnew a ha).1; omega, (hnew a ha).2⟩⟩
  refine ⟨by rw [List.flatMap_append, List.flatMap_singleton]; exact hw, by rw [List.length_append, h.ln]; rfl, fun i z hz => ?_, fun z hz => own_keep (hall z hz).1 (fun g hg' hl => ?_), fun i i' u v a b hu hv hne ha hb' => ?_, fun z hz a ha => ?_, h1.bl.trans hB⟩
  · rw [List.getElem?_append] at hz
    split at hz
    · exact h.el i z hz
    · rename_i hi
      have hik : i = k := by
        have := (List.getElem?_eq_some_iff.1 hz).1
        simp at this
        rw [h.ln] at this hi
        omega
      subst hik
      rw [h.ln, Nat.sub_self] at hz
      simp only [List.getElem?_cons_zero, Option.some.injEq] at hz
      subst hz
      exact ⟨j, hj, ho, hp⟩
  · obtain ⟨a, ha, rfl⟩ := ro_own.1 hg'
    exact hg.block _ hl (fun e => ((hall z hz).2 a ha).1 e.symm)
  · have key : ∀ (i : Nat) (u : RO), (rs ++ [r])[i]? = some u → (rs[i]? = some u ∧ i < k) ∨ (u = r ∧ i = k) := by
      intro i u hu
      rw [List.getElem?_append] at hu
      split at hu
      · rename_i hi; exact .inl ⟨hu, by rw [h.ln] at hi; exact hi⟩
      · rename_i hi
        have hik : i = k := by
          have := (List.getElem?_eq_some_iff.1 hu).1
          simp at this
          rw [h.ln] at this hi
          omega
        rw [hik, h.ln, Nat.sub_self] at hu
        simp only [List.getElem?_cons_zero, Option.some.injEq] at hu
        exact .inr ⟨hu.symm, hik⟩
    rcases key i u hu with ⟨h2, h3⟩ | ⟨rfl, h3⟩
    · rcases key i' v hv with ⟨h4, h5⟩ | ⟨rfl, h5⟩
      · exact h.nd i i' u v a b h2 h4 hne ha hb'
      · have := hold u (List.mem_of_getElem? h2) a ha
        have := (hnew b hb').1
        omega
    · rcases key i' v hv with ⟨h4, h5⟩ | ⟨rfl, h5⟩
      · have := hold v (List.mem_of_getElem? h4) b hb'
        have := (hnew a ha).1
        omega
      · omega
  · rcases hy with e | ⟨g, e, hl⟩
    · rw [e]; exact ((hall z hz).2 a ha).1
    · rw [e]
      intro e'
      injection e' with e'
      have := ((hall z hz).2 a ha).2
      omega
theorem tpl_at {L : List Ob} {order : List Nat} (hg : Og L order) {k j : Nat} (hj : order[k]? = some j) : tpl L order j = place (obs L order) k := by
  obtain ⟨h1, h2⟩ := List.getElem?_eq_some_iff.1 hj
  unfold tpl
  rw [show order.idxOf j = k from by rw [← h2]; exact hg.nd.idxOf_getElem k h1]
theorem coll_place (L : List Ob) (roots : List Wd) (k : Nat) : place (collO L roots) k = place (obs L (ordF L roots)) k := by
  have h := to_end L (ordF L roots)
  unfold collO
  rw [← h, tobjs_place]
theorem RS.done (h : RS L order w w1 y order.length rs) (hord : ordF L roots = order) (hmb : mb < w.heap.size) (hB : B ≤ w.heap.size) (hBm : B ≤ mb)
    (hd : w2.heap[mb]? = some (.cells #[.int .i64 half, y, .int .i64 runs] RTyp)) (hk : ∀ b, b ≠ mb → b < w1.heap.size → w2.heap[b]? = w1.heap[b]?) : RH w2 B mb half runs (collO L roots) y rs := by
  have hne : ∀ g, w.heap.size ≤ g → g ≠ mb := fun g hg e => by omega
  refine ⟨hd, ?_, ?_, fun j z hz => ?_, fun z hz => own_mono (own_keep (h.ws z hz) (fun g hg hl => hk g (hne g ((h.ws z hz).lt g hg).1) hl)) hB, h.nd, fun z hz a ha => ⟨h.nx z hz a ha, hne _ ((h.ws z hz).lt a.block (by rw [ha]; rfl)).1⟩, fun e => hne _ (h.row.lt mb e).1 rfl, hBm⟩
  · rw [h.ln]
    exact own_mono (own_keep h.row (fun g hg hl => hk g (hne g (h.row.lt g hg).1) hl)) hB
  · apply List.ext_getElem?
    intro i
    unfold collO
    rw [hord, List.getElem?_map, List.getElem?_map]
    cases hz : rs[i]? with
    | none =>
      have h1 := List.getElem?_eq_none_iff.1 hz
      rw [List.getElem?_eq_none (by rw [h.ln] at h1; exact h1)]
      rfl
    | some z =>
      obtain ⟨j, h1, h2, _⟩ := h.el i z hz
      rw [h1]
      simp only [Option.map_some]
      rw [h2]
  · obtain ⟨i, _, _, h3⟩ := h.el j z hz
    rw [h3, coll_place, hord]
set_option maxRecDepth 100000 in
set_option maxHeartbeats 4000000 in
theorem coll_rest {u2 u3 u4 u6 u7 u9 u10 u11 u12 u13 u14 u15 u16 u17 u18 u19 u20 u21 u22 u23 u24 u25 u26 u27 u28 u29 u30 u31 u32 u33 u34 u35 u36 u37 u38 u39 u40 u41 u42 u43 u44 u45 u46 u47 u48 u49 u50 u51 u52 u53 u54 u55 u56 u57 u58 u59 u60 u61 u62 u63 u64 u65 u66 u67 u68 u69 u70 u71 u72 u73 u74 u75 u76 u77 u78 u79 u80 u81 u82 u83 u84 u85 u86 u87 u88 u89 u90 u91 u92 u93 u94 u95 u96 u97 u98 u99 u100 u101 u102 u103 u104 u105 u106 u107 u108 u109 u110 u111 u112 u113 u114 u115 u116 u117 u118 u119 u120 u121 : Value} (w0 w : World) (P : List Nat) (A1 A5 A8 : Option Addr) (c1 c5 c8 : Nat) (hord : ordF L roots = order) (h : RH w0 B mb half runs L x xs) (hB : B ≤ w0.heap.size) (hW : Wf L) (hm : L.length ≤ 4000000) (hs : sizes L ≤ 4000000) (hr : Rd w0 2 A1 roots.length (wcells roots)) (hrm : roots.length ≤ 4000000) (hf : ∀ u ∈ roots, Fine L u) (hru : 0 ≤ runs ∧ runs ≤ 4000000)
    (ho : Rd w 1 A5 order.length (ncells order)) (hP : PlR L order P) (hp : Rd w 1 A8 P.length (ncells P)) (hb : Below w0.heap.size w0 w) :
    Code.wp Try.prog (tlR 6) (bodyPost Try.prog Try.f22 (RCR w0 B mb half runs L roots x xs)) ⟨#[.pointer (some ⟨mb, 0, none⟩), .slice A1 roots.length c1, u2, u3, u4, .slice A5 order.length c5, u6, u7, .slice A8 P.length c8, u9, u10, u11, u12, u13, u14, u15, u16, u17, u18, u19, u20, u21, u22, u23, u24, u25, u26, u27, u28, u29, u30, u31, u32, u33, u34, u35, u36, u37, u38, u39, u40, u41, u42, u43, u44, u45, u46, u47, u48, u49, u50, u51, u52, u53, u54, u55, u56, u57, u58, u59, u60, u61, u62, u63, u64, u65, u66, u67, u68, u69, u70, u71, u72, u73, u74, u75, u76, u77, u78, u79, u80, u81, u82, u83, u84, u85, u86, u87, u88, u89, u90, u91, u92, u93, u94, u95, u96, u97, u98, u99, u100, u101, u102, u103, u104, u105, u106, u107, u108, u109, u110, u111, u112, u113, u114, u115, u116, u117, u118, u119, u120, u121], []⟩ w := by
  have hog : Og L order := hord ▸ ord_og L roots L.length
  have hcl : ∀ j ∈ order, ∀ u ∈ (ob L j).2, In L order u := hord ▸ ordF_closed hW.ob
  have hri : ∀ u ∈ roots, In L order u := hord ▸ roots_in hf
  have HORD := Lib.hid hord
  have H := Lib.hid h
  have HG := Lib.hid (And.intro hog (And.intro ho hb))
  have HX := Lib.hid (And.intro hB (And.intro hW (And.intro hm (And.intro hs (And.intro hr (And.intro hrm (And.intro hf hru)))))))
  have HP := Lib.hid (And.intro hP (And.intro hp (And.intro hcl hri)))
  have hol : (order.length : Int) ≤ 4000000 := by have := hog.len; omega
  have HXL := Lib.hid h.len
  obtain ⟨A, c, rfl, _⟩ := own_cap h.row
  clear h hB hW hm hs hr hrm hf hru ho hb hord hog hP hp hcl hri
  conv => arg 2; whnf
  go_wp2_with fail
  go_loopw [10, 11] (fun y i wr => ∃ (k : Nat) (rs : List RO), i = .int .i64 k ∧ k ≤ order.length ∧ RS L order w wr y k rs ∧ Below w.heap.size w wr) (fun _ i _ => order.length - (intOf i).toNat)
  case atStart => exact ⟨0, [], rfl, Nat.zero_le _, RS.start _ _ (Below.refl _ _), Below.refl _ _⟩
  case round =>
    obtain ⟨k, rs, rfl, hk, hrs, hbw⟩ := hrel
    have HR := Lib.hid (And.intro hrs hbw)
    obtain ⟨Ay, cy, rfl, _⟩ := own_cap hrs.row
    have k0 : (0 : Int) ≤ (k : Int) := by omega
    by_cases hlt : k < order.length
    · have k1 : (k : Int) < (order.length : Int) := by omega
      obtain ⟨j, hj⟩ : ∃ j, order[k]? = some j := ⟨_, List.getElem?_eq_getElem hlt⟩
      have hjL := HG.out.1.lt j (List.mem_of_getElem? hj)
      have j0 : (0 : Int) ≤ (j : Int) := by omega
      have j1 : (j : Int) < (xs.length : Int) := by have := HXL.out; omega
      have j2 : (j : Int) < (P.length : Int) := by have := HP.out.1.ln; omega
      obtain ⟨b5, o5, hA5, _, f5⟩ := (HG.out.2.1.below hbw).nat hj
      subst hA5
      obtain ⟨q, hq⟩ : ∃ q, xs[j]? = some q := ⟨_, List.getElem?_eq_getElem (by rw [HXL.out]; omega)⟩
      have hqo : q.o = ob L j := by have h1 := H.out.get hq; unfold ob; rw [h1]; rfl
      obtain ⟨b9, o9, hA9, f9, f10, f11⟩ := (H.out.below (HG.out.2.2.trans (hbw.mono HG.out.2.2.size))).at rfl hq
      subst hA9
      obtain ⟨c0, cx1, c2⟩ := cells3 (H.out.below (HG.out.2.2.trans (hbw.mono HG.out.2.2.size))).hd
      have HK := Lib.hid (And.intro hj (And.intro hlt (And.intro hq hqo)))
      have hba : Below wr.heap.size wr (wr.alloc (.cells #[.int .i64 0, .int .i64 0, .slice none 0 0] OTyp)) := (Below.refl _ _).alloc (Nat.le_refl _) _
      have e5 := cell_below hba f5
      have e9 := cell_below hba f9
      have e10 := cell_below hba f10
      have e11 := cell_below hba f11
      have ec := cell_below hba cx1
      clear hrs hbw hj hjL hk hlt hq hqo c0 c2 hba
      go_upto_region 17 with fail
      go_region
      have hx3 := heap_new (w := wr) (o := .cells #[.int .i64 q.place, .int .i64 q.o.1, .slice q.A q.o.2.length q.c] OTyp) rfl
      have hb3 : Below wr.heap.size wr (wr.alloc (.cells #[.int .i64 q.place, .int .i64 q.o.1, .slice q.A q.o.2.length q.c] OTyp)).drew := Below.drew ((Below.refl _ _).alloc (Nat.le_refl _) _)
      have H3 := Lib.hid (And.intro (show (wr.alloc (.cells #[.int .i64 q.place, .int .i64 q.o.1, .slice q.A q.o.2.length q.c] OTyp)).drew.heap[wr.heap.size]? = _ from hx3) hb3)
      clear hx3 hb3 f5 f9 f10 f11 cx1 e5 e9 e10 e11 ec
      generalize (wr.alloc (.cells #[.int .i64 q.place, .int .i64 q.o.1, .slice q.A q.o.2.length q.c] OTyp)).drew = w3 at *
      have HB3 := Lib.hid (And.intro (HG.out.2.2.trans ((HR.out.2.trans (H3.out.2.mono HR.out.2.size)).mono HG.out.2.2.size)) (HR.out.2.trans (H3.out.2.mono HR.out.2.size)))
      obtain ⟨d0, d1, d2⟩ := cells3 H3.out.1
      obtain ⟨b5', o5', hA5, _, f5⟩ := (HG.out.2.1.below HB3.out.2).nat HK.out.1
      cases hA5
      have hPj := HP.out.1.at_ j (List.mem_of_getElem? HK.out.1)
      obtain ⟨b8, o8, hA8, _, f8⟩ := (HP.out.2.1.below HB3.out.2).nat hPj
      subst hA8
      have HLT := Lib.hid (show b5 < w.heap.size ∧ b8 < w.heap.size by
        obtain ⟨_, _, e1, l1, _⟩ := HG.out.2.1.nat HK.out.1
        obtain ⟨_, _, e2, l2, _⟩ := HP.out.2.1.nat hPj
        cases e1
        cases e2
        exact ⟨l1, l2⟩)
      have HNE := Lib.hid (fun (g : Nat) (h : (Value.slice Ay k cy).ownBlock = some g) => HR.out.1.row.lt g h)
      have HS := Lib.hid (fun (W : World) (h : Below w3.heap.size w3 W) => And.intro (cell_below h f5) (And.intro (cell_below h f8) (And.intro (cell_below h d1) (cell_below h d2))))
      have HT := Lib.hid (fun (W : World) (h : Below w3.heap.size w3 W) => turned_any (H.out.below (HB3.out.1.trans (h.mono HB3.out.1.size))) HX.out.2.2.1 q.A (some ⟨b8, o8, none⟩) q.c c8 order P q.o.2 HP.out.1 (HP.out.2.1.below (HB3.out.2.trans (h.mono HB3.out.2.size))) (Rd.of_own ((H.out.below (HB3.out.1.trans (h.mono HB3.out.1.size))).ws q (List.mem_of_getElem? HK.out.2.2.1))) (by have := (HX.out.2.1.head _ (List.mem_of_getElem? (H.out.get HK.out.2.2.1))).2.2; omega) (by rw [HK.out.2.2.2]; exact HP.out.2.2.1 j (List.mem_of_getElem? HK.out.1)))
      have HQL := Lib.hid (show ((k : Nat) + 1) * 40 ≤ 140737488355328 by omega)
      clear d0 d1 d2 f5 f8 hPj
      obtain ⟨f5, f8, d1, d2⟩ := HS.out w3 (Below.refl _ _)
      go_upto_region 18 with fail
      go_region_held3 (fun w' => w'.cell? ⟨b5, o5 + k, none⟩ = some (.int .i64 (j : Nat)) ∧ w'.cell? ⟨b8, o8 + j, none⟩ = some (.int .i64 (tpl L order j : Nat)) ∧ w'.cell? ⟨wr.heap.size, 1, none⟩ = some (.int .i64 q.o.1) ∧ w'.cell? ⟨wr.heap.size, 2, none⟩ = some (.slice q.A q.o.2.length q.c))
        (first | (with_reducible exact HS6.out) | (with_reducible exact HS.out _ HB5.out) | (with_reducible exact HS.out _ (below_drew1 _)) | go_keep | fail)
        (first
          | (go_simp; go_at_call 42; (with_reducible refine (HT.out _ (below_drew1 _)).mono ?_); rintro e w5 ⟨v, rfl, hown5, hb5⟩; obtain ⟨Av, cv, rfl, _⟩ := own_cap hown5; have HB5 := Lib.hid (below_then (below_drew1 w3) hb5); have HO5 := Lib.hid hown5; have HA5 := Lib.hid ((Below.refl w5.heap.size w5).alloc (Nat.le_refl _) (.cells #[.int .i64 (tpl L order j : Nat), .int .i64 q.o.1, .slice Av q.o.2.length cv] OTyp)); have HOW := Lib.hid (own_below (own_below (own_below HR.out.1.row H3.out.2) HB5.out) HA5.out); have HRD := Lib.hid (Rd.lit (size := 3) (n := 1) w5 #[.int .i64 (tpl L order j : Nat), .int .i64 q.o.1, .slice Av q.o.2.length cv] OTyp rfl (fr := (0, 0))); clear hown5 hb5)
          | (refine step_app elObj _ (by rfl) (.tmp 87) (.tmp 103) (by rfl) w.heap.size _ k _ (by rfl) HOW.out (some ⟨w5.heap.size, 0, none⟩) 1 1 _ (by rfl) HRD.out (ro_ones [⟨(tpl L order j : Nat), (q.o.1, q.o.2), Av, cv⟩]) HQL.out (Nat.le_trans HB3.out.2.size (Nat.le_trans HB5.out.size HA5.out.size)) ?_; intro v6 w6 hown6 hg6 hat6; have HS5 := HS.out _ (HB5.out.trans (HA5.out.mono HB5.out.size)); have HS6 := Lib.hid (And.intro (hg6.cell HS5.1 (fun e => by have := HNE.out _ e.symm; have := HLT.out.1; simp only at *; omega)) (And.intro (hg6.cell HS5.2.1 (fun e => by have := HNE.out _ e.symm; have := HLT.out.2; simp only at *; omega)) (And.intro (hg6.cell HS5.2.2.1 (fun e => by have := HNE.out _ e.symm; simp only at *; omega)) (hg6.cell HS5.2.2.2 (fun e => by have := HNE.out _ e.symm; simp only at *; omega))))); have H6 := Lib.hid (And.intro hown6 (And.intro hg6 hat6)); clear HS5 hown6 hg6 hat6)
          | fail)
      obtain ⟨r, hr⟩ : ∃ r : RO, r = ⟨(tpl L order j : Nat), ((ob L j).1, (ob L j).2.map (turn L order)), Av, cv⟩ := ⟨_, rfl⟩
      have hrc : r.cells = [.int .i64 (tpl L order j : Nat), .int .i64 q.o.1, .slice Av q.o.2.length cv] := by rw [hr, HK.out.2.2.2]; simp [RO.cells]
      have hKK := HK.out
      have hmore := HR.out.1.more (r := r) (j := j) ((H3.out.2.trans ((HB5.out.trans (HA5.out.mono HB5.out.size)).mono H3.out.2.size))) (by
        have h5 := own_mono (own_below HO5.out HA5.out) (show wr.heap.size ≤ w3.drew.heap.size from H3.out.2.size)
        rw [hr]
        simp only [List.length_map]
        rw [← HK.out.2.2.2]
        exact h5) HK.out.1 (by rw [hr]) (by rw [hr]; simp only; rw [tpl_at HG.out.1 HK.out.1]) (by rw [hrc]; exact H6.out.1) H6.out.2.1 (H6.out.2.2.elim .inl (fun e => .inr ⟨_, e, Nat.le_refl _⟩)) (below_of_grown H6.out.2.1 (Nat.le_trans HB3.out.2.size (Nat.le_trans HB5.out.size HA5.out.size)) (fun g hg => (HNE.out g hg).1))
      have HM := Lib.hid hmore
      clear hmore hr hrc f5 f8 d1 d2
      go_wp2_with fail
      exact ⟨⟨k + 1, rs ++ [r], by go_num, by omega, HM.out, HM.out.bl⟩, by simp [intOf] <;> omega⟩
    · have hkk : k = order.length := by omega
      subst hkk
      have hrl : Below w0.heap.size w0 wr := HG.out.2.2.trans (hbw.mono HG.out.2.2.size)
      have HT := Lib.hid (turned_any (H.out.below hrl) HX.out.2.2.1 A1 A8 c1 c8 order P roots HP.out.1 (HP.out.2.1.below hbw) (HX.out.2.2.2.2.1.below hrl) HX.out.2.2.2.2.2.1 HP.out.2.2.2)
      have HRL := Lib.hid hrl
      clear hrs hbw hrl hk
      go_upto_region 20 with (go_at_call 42; (with_reducible refine HT.out.mono ?_); rintro e w5 ⟨v, rfl, hown5, hb5⟩; have H5 := Lib.hid (And.intro hown5 hb5); clear hown5 hb5)
      have hh := (H.out.below (HRL.out.trans (H5.out.2.mono HRL.out.size))).hd
      obtain ⟨c0, cx1, c2⟩ := cells3 hh
      have z0 := frozenN hh 1
      have HH6 := Lib.hid (set_cells hh 1 (.slice Ay order.length cy))
      have HO6 := Lib.hid (fun b (hb : b ≠ mb) => set_other w5 mb 1 (.slice Ay order.length cy) hb)
      have HS6 := Lib.hid (show (w5.setCell ⟨mb, 1, none⟩ (.slice Ay order.length cy)).heap.size = w5.heap.size from World.size_setCell ..)
      have HB6 := Lib.hid (show Below mb w5 (w5.setCell ⟨mb, 1, none⟩ (.slice Ay order.length cy)) from (Below.refl _ _).setCell (p := ⟨mb, 1, none⟩) (Nat.le_refl _) _)
      go_upto_region 21 with fail
      clear c0 cx1 c2 z0 hh
      generalize w5.setCell ⟨mb, 1, none⟩ (.slice Ay order.length cy) = w6 at *
      obtain ⟨c0, cx1, c2⟩ := cells3 (x0 := .int .i64 half) (x1 := .slice Ay order.length cy) (x2 := .int .i64 runs) HH6.out
      have z0 := frozenN HH6.out 2
      have r0 := HX.out.2.2.2.2.2.2.2.1
      have r1 := HX.out.2.2.2.2.2.2.2.2
      go_wp2_with fail
      go_returns
      have hmb0 := lt_of_heap H.out.hd
      have s1 := HG.out.2.2.size
      have s2 := HR.out.2.size
      have s3 := H5.out.2.size
      have hB := HX.out.1
      have hge := H.out.ge
      have ho7 : ∀ b, b ≠ mb → (w6.setCell ⟨mb, 2, none⟩ (.int .i64 (runs + 1))).heap[b]? = w5.heap[b]? := fun b hb => (set_other _ _ _ _ hb).trans (HO6.out b hb)
      have hRS := HR.out.1.below H5.out.2
      have hb05 := HRL.out.trans (H5.out.2.mono HRL.out.size)
      refine ⟨v, _, rs, rfl, ?_, hRS.done HORD.out (Nat.lt_of_lt_of_le hmb0 s1) (Nat.le_trans hB s1) hge (set_cells HH6.out 2 _) (fun b hb _ => ho7 b hb), fun g hg => ?_, fun b hb hl => ⟨⟨hb.1, fun e => ?_, fun z hz a ha e => ?_⟩, (ho7 b hb.1).trans (hb05.block b hl)⟩, ((hb05.mono hB).trans (HB6.out.mono hge)).setCell (p := ⟨mb, 2, none⟩) hge _⟩
      · unfold collR
        rw [HORD.out]
        exact own_mono (own_keep H5.out.1 (fun g hg _ => ho7 g (fun e => by have := (H5.out.1.lt g hg).1; omega))) (Nat.le_trans s1 s2)
      · have hgl := (H5.out.1.lt g hg).1
        refine ⟨fun e => by omega, fun e => by have := (HR.out.1.row.lt g e).2; omega, fun z hz a ha e => ?_⟩
        have := ((HR.out.1.ws z hz).lt a.block (by rw [ha]; rfl)).2
        omega
      · have := (HR.out.1.row.lt b e).1
        omega
      · have := ((HR.out.1.ws z hz).lt a.block (by rw [ha]; rfl)).1
        omega
end
end Go.Proofs.Ythblcfhflkapmaa

namespace Go.Proofs.Ythblcfhflkapmaa
open Go Go.ChangeShapes Go.WideShapes Go.ChangeAt Go.RowKit Go.Sort
set_option linter.unusedVariables false
set_option linter.unusedSimpArgs false

section
variable {B mb : Nat} {half runs : Int} {L : List Ob} {roots : List Wd} {x : Value} {xs : List RO}
theorem zeros_nat (n : Nat) : zeros (.int .i64 0) n = ncells (List.replicate n 0) := by
  induction n with
  | zero => rfl
  | succ n ih => rw [zeros, ih, List.replicate_succ]; rfl
theorem ncells_set (l : List Nat) (k n : Nat) : ncells (l.set k n) = (ncells l).set k (.int .i64 (n : Nat)) := by
  unfold ncells
  rw [List.map_set]
/-- Places, of the first k that are reached. -/
structure PlK (L : List Ob) (order : List Nat) (k : Nat) (P : List Nat) : Prop where
  ln : P.length = L.length
  at_ : ∀ i j, i < k → order[i]? = some j → P[j]? = some (place (obs L order) i)
theorem PlK.step {L : List Ob} {order : List Nat} {k j : Nat} {P : List Nat} (h : PlK L order k P) (hg : Og L order) (hj : order[k]? = some j) : PlK L order (k + 1) (P.set j (place (obs L order) k)) := by
  refine ⟨by rw [List.length_set]; exact h.ln, fun i j' hi hj' => ?_⟩
  have hjl : j < P.length := by rw [h.ln]; exact hg.lt j (List.mem_of_getElem? hj)
  by_cases e : i = k
  · subst e
    rw [hj] at hj'
    cases hj'
    rw [List.getElem?_set_self hjl]
  · have hne : j ≠ j' := by
      intro e'
      subst e'
      obtain ⟨h1, h2⟩ := List.getElem?_eq_some_iff.1 hj
      obtain ⟨h3, h4⟩ := List.getElem?_eq_some_iff.1 hj'
      exact e ((List.getElem_inj hg.nd).1 (h4.trans h2.symm))
    rw [List.getElem?_set_ne hne]
    exact h.at_ i j' (by omega) hj'
theorem PlK.done {L : List Ob} {order : List Nat} {P : List Nat} (h : PlK L order order.length P) (hg : Og L order) : PlR L order P := by
  refine ⟨h.ln, fun j hj => ?_⟩
  obtain ⟨i, hi, e⟩ := List.getElem_of_mem hj
  have hij : order[i]? = some j := by rw [List.getElem?_eq_getElem hi, e]
  rw [h.at_ i j hi hij]
  unfold tpl
  rw [show order.idxOf j = i from ?_]
  rw [← e]
  exact hg.nd.idxOf_getElem i hi
set_option maxRecDepth 100000 in
set_option maxHeartbeats 4000000 in
theorem coll_places {u2 u3 u4 u6 u7 u8 u9 u10 u11 u12 u13 u14 u15 u16 u17 u18 u19 u20 u21 u22 u23 u24 u25 u26 u27 u28 u29 u30 u31 u32 u33 u34 u35 u36 u37 u38 u39 u40 u41 u42 u43 u44 u45 u46 u47 u48 u49 u50 u51 u52 u53 u54 u55 u56 u57 u58 u59 u60 u61 u62 u63 u64 u65 u66 u67 u68 u69 u70 u71 u72 u73 u74 u75 u76 u77 u78 u79 u80 u81 u82 u83 u84 u85 u86 u87 u88 u89 u90 u91 u92 u93 u94 u95 u96 u97 u98 u99 u100 u101 u102 u103 u104 u105 u106 u107 u108 u109 u110 u111 u112 u113 u114 u115 u116 u117 u118 u119 u120 u121 : Value} (w0 w : World) (A1 A5 : Option Addr) (c1 c5 : Nat) (h : RH w0 B mb half runs L x xs) (hB : B ≤ w0.heap.size) (hW : Wf L) (hm : L.length ≤ 4000000) (hs : sizes L ≤ 4000000) (hr : Rd w0 2 A1 roots.length (wcells roots)) (hrm : roots.length ≤ 4000000) (hf : ∀ u ∈ roots, Fine L u) (hru : 0 ≤ runs ∧ runs ≤ 4000000)
    (ho : Rd w 1 A5 (ordF L roots).length (ncells (ordF L roots))) (hb : Below w0.heap.size w0 w) :
    Code.wp Try.prog (tlR 3) (bodyPost Try.prog Try.f22 (RCR w0 B mb half runs L roots x xs)) ⟨#[.pointer (some ⟨mb, 0, none⟩), .slice A1 roots.length c1, u2, u3, u4, .slice A5 (ordF L roots).length c5, u6, u7, u8, u9, u10, u11, u12, u13, u14, u15, u16, u17, u18, u19, u20, u21, u22, u23, u24, u25, u26, u27, u28, u29, u30, u31, u32, u33, u34, u35, u36, u37, u38, u39, u40, u41, u42, u43, u44, u45, u46, u47, u48, u49, u50, u51, u52, u53, u54, u55, u56, u57, u58, u59, u60, u61, u62, u63, u64, u65, u66, u67, u68, u69, u70, u71, u72, u73, u74, u75, u76, u77, u78, u79, u80, u81, u82, u83, u84, u85, u86, u87, u88, u89, u90, u91, u92, u93, u94, u95, u96, u97, u98, u99, u100, u101, u102, u103, u104, u105, u106, u107, u108, u109, u110, u111, u112, u113, u114, u115, u116, u117, u118, u119, u120, u121], []⟩ w := by
  have hog : Og L (ordF L roots) := ord_og L roots L.length
  obtain ⟨order, hord⟩ : ∃ order, ordF L roots = order := ⟨_, rfl⟩
  have HORD := Lib.hid hord
  rw [hord] at ho hog ⊢
  have H := Lib.hid h
  have HG := Lib.hid (And.intro hog (And.intro ho hb))
  have HX := Lib.hid (And.intro hB (And.intro hW (And.intro hm (And.intro hs (And.intro hr (And.intro hrm (And.intro hf hru)))))))
  have hol : (order.length : Int) ≤ 4000000 := by have := hog.len; omega
  obtain ⟨c0, cx1, c2⟩ := cells3 (h.below hb).hd
  obtain ⟨A, c, rfl, _⟩ := own_cap h.row
  have hxl := h.len
  rw [hxl] at cx1
  have HXL := Lib.hid hxl
  have HLL := Lib.hid hm
  have hll : (L.length : Int) ≤ 4000000 := by omega
  clear h hB hW hm hs hr hrm hf hru ho hb hord hog hxl
  conv => arg 2; whnf
  go_wp2_with (at_make; refine wpList_mk elInt _ rfl (.tmp 41) (.tmp 41) rfl w0.heap.size .i64 .i64 _ _ L.length L.length rfl rfl rfl rfl (Nat.le_refl _) (by have := HLL.out; omega) HG.out.2.2.size ?_; intro w2 hown hb2 hs2; rw [zeros_nat] at hown; have H2 := Lib.hid (And.intro hown (HG.out.2.2.trans (hb2.mono HG.out.2.2.size))); have HA := Lib.hid hb2; clear hown hb2 hs2)
  rename_i hKC
  have HKC := Lib.hid hKC
  clear hKC c0 cx1 c2
  go_loopw [7, 9] (fun y i wr => ∃ (k : Nat) (P : List Nat), i = .int .i64 k ∧ k ≤ order.length ∧ y = .int .i64 (place (obs L order) k : Nat) ∧ PlK L order k P ∧ wr.ownsRow w0.heap.size NTy 1 (.slice (some ⟨w.heap.size, 0, none⟩) L.length L.length) L.length (ncells P) ∧ Below w0.heap.size w0 wr ∧ Below w.heap.size w wr) (fun _ i _ => order.length - (intOf i).toNat)
  case atStart => exact ⟨0, List.replicate L.length 0, rfl, Nat.zero_le _, rfl, ⟨by simp, fun i j hi => absurd hi (Nat.not_lt_zero i)⟩, H2.out.1, H2.out.2, HA.out⟩
  case round =>
    obtain ⟨k, P, rfl, hk, rfl, hP, hown, hb, hbw⟩ := hrel
    have HP := Lib.hid (And.intro hP (And.intro hown (And.intro hb hbw)))
    have k0 : (0 : Int) ≤ (k : Int) := by omega
    by_cases hlt : k < order.length
    · have k1 : (k : Int) < (order.length : Int) := by omega
      obtain ⟨j, hj⟩ : ∃ j, order[k]? = some j := ⟨_, List.getElem?_eq_getElem hlt⟩
      have hjL := HG.out.1.lt j (List.mem_of_getElem? hj)
      have j0 : (0 : Int) ≤ (j : Int) := by omega
      have j1 : (j : Int) < (L.length : Int) := by omega
      obtain ⟨b5, o5, hA5, _, f5⟩ := (HG.out.2.1.below hbw).nat hj
      subst hA5
      obtain ⟨v, hv⟩ : ∃ v, (ncells P)[j]? = some v := ⟨_, List.getElem?_eq_getElem (by rw [ncells_len, hP.ln]; exact hjL)⟩
      have hcell : wr.cell? ⟨w.heap.size, j, none⟩ = some v ∧ wr.frozen? ⟨w.heap.size, j, none⟩ = false := by
        rcases hown.2 with ⟨e, _⟩ | ⟨g, cap, cur, e, _, hg, h1, h2, h3, h4⟩
        · cases e
        · cases e
          refine ⟨?_, Lib.frozen_of_heap hg j⟩
          rw [Lib.cell_of_heap hg, ← Array.getElem?_toList, ← hv, ← h4, List.getElem?_take, if_pos (by omega)]
      obtain ⟨g0, g1⟩ := hcell
      obtain ⟨pk, hpk⟩ : ∃ pk, place (obs L order) k = pk := ⟨_, rfl⟩
      have hps : place (obs L order) (k + 1) = pk + osz (ob L j) := by rw [← hpk]; exact place_succ (obs_get hj)
      have hple : place (obs L order) (k + 1) ≤ sizes L := Nat.le_trans (place_le _) (obs_le HG.out.1)
      rw [hpk]
      have HK := Lib.hid (And.intro hj (And.intro hlt (And.intro hpk hps)))
      have p1 : (pk : Int) + 1 + ((ob L j).2.length : Int) ≤ 4000000 := by have := HX.out.2.2.2.1; unfold osz at hps; omega
      have p0 : (0 : Int) ≤ (pk : Int) := by omega
      have p2 : (pk : Int) < 4000000 := by omega
      clear hj hjL hP hown hb hbw hv hpk hps hple hk hlt
      go_upto_region 12 with fail
      have HS := Lib.hid (own_set HP.out.2.1 j (by have := HG.out.1.lt j (List.mem_of_getElem? HK.out.1); omega) (.int .i64 (pk : Nat)))
      have HBS := Lib.hid (show Below w.heap.size wr (wr.setCell ⟨w.heap.size, j, none⟩ (.int .i64 (pk : Nat))) from (Below.refl _ _).setCell (p := ⟨w.heap.size, j, none⟩) (Nat.le_refl _) _)
      clear g0 g1 f5
      generalize wr.setCell ⟨w.heap.size, j, none⟩ (.int .i64 (pk : Nat)) = w3 at *
      have HB3 := Lib.hid (And.intro (HP.out.2.2.1.trans (HBS.out.mono HG.out.2.2.size)) (HP.out.2.2.2.trans HBS.out))
      obtain ⟨c0, cx1, c2⟩ := cells3 (H.out.below HB3.out.1).hd
      rw [HXL.out] at cx1
      obtain ⟨b5', o5', hA5, _, f5⟩ := (HG.out.2.1.below HB3.out.2).nat HK.out.1
      cases hA5
      obtain ⟨y, hy⟩ : ∃ y, xs[j]? = some y := ⟨_, List.getElem?_eq_getElem (by rw [HXL.out]; omega)⟩
      have hyo : y.o = ob L j := by
        have h1 := H.out.get hy
        unfold ob; rw [h1]; rfl
      obtain ⟨b9, o9, hA9, _, _, f9⟩ := (H.out.below HB3.out.1).at rfl hy
      subst hA9
      rw [hyo] at f9
      clear hy hyo
      go_quiet (fail)
      go_wp2_with fail
      have hKK := HK.out
      refine ⟨⟨k + 1, P.set j pk, by go_num, by omega, by rw [hKK.2.2.2]; unfold osz; go_num, by rw [← hKK.2.2.1]; exact HP.out.1.step HG.out.1 hKK.1, ?_, below_drewN HB3.out.1 _, below_drewN HB3.out.2 _⟩, by simp [intOf] <;> omega⟩
      rw [ncells_set]
      exact own_below HS.out (below_drewN (Below.refl _ _) _)
    · have hkk : k = order.length := by omega
      subst hkk
      have HE := Lib.hid (And.intro (hP.done HG.out.1) (And.intro hown (And.intro hb hbw)))
      clear hP hown hb hbw hk
      go_wp2_with fail
      refine HKC.out _ _ ?_
      have hpl := HE.out.1.ln
      have hrow := HE.out.2.1
      rw [← hpl] at hrow ⊢
      exact coll_rest w0 wr P A1 A5 (some ⟨w.heap.size, 0, none⟩) c1 c5 P.length HORD.out H.out HX.out.1 HX.out.2.1 HX.out.2.2.1 HX.out.2.2.2.1 HX.out.2.2.2.2.1 HX.out.2.2.2.2.2.1 HX.out.2.2.2.2.2.2.1 HX.out.2.2.2.2.2.2.2 (HG.out.2.1.below HE.out.2.2.2) HE.out.1 (Rd.of_own hrow) HE.out.2.2.1
end
end Go.Proofs.Ythblcfhflkapmaa

namespace Go.Proofs.Ythblcfhflkapmaa
open Go Go.ChangeShapes Go.WideShapes Go.ChangeAt Go.RowKit Go.Sort
set_option linter.unusedVariables false
set_option linter.unusedSimpArgs false

section
variable {B mb : Nat} {half runs : Int} {L : List Ob} {roots : List Wd} {x : Value} {xs : List RO}
theorem ord_len (L : List Ob) (roots : List Wd) (k : Nat) : (ord L roots k).length ≤ (ord L roots (k + 1)).length := by
  obtain ⟨r, e⟩ := ord_ext L roots k
  rw [e, List.length_append]
  omega
set_option maxRecDepth 100000 in
set_option maxHeartbeats 4000000 in
theorem RCollect_any (w0 : World) (A1 : Option Addr) (c1 : Nat) (h : RH w0 B mb half runs L x xs) (hB : B ≤ w0.heap.size) (hW : Wf L) (hm : L.length ≤ 4000000) (hs : sizes L ≤ 4000000) (hr : Rd w0 2 A1 roots.length (wcells roots)) (hrm : roots.length ≤ 4000000) (hf : ∀ u ∈ roots, Fine L u) (hru : 0 ≤ runs ∧ runs ≤ 4000000) :
    Calls Try.prog 22 #[.pointer (some ⟨mb, 0, none⟩), .slice A1 roots.length c1] w0 (RCR w0 B mb half runs L roots x xs) := by
  have H := Lib.hid h
  have HX := Lib.hid (And.intro hB (And.intro hW (And.intro hm (And.intro hs (And.intro hr (And.intro hrm (And.intro hf hru)))))))
  have HRE := Lib.hid (show Calls Try.prog 41 #[.pointer (some ⟨mb, 0, none⟩), .slice none 0 0, .slice A1 roots.length c1] w0 _ from reach_any h hm none A1 0 c1 [] roots (Rd.nil _ _ _) (Og.nil L) hr hrm hf)
  have hll : (L.length : Int) ≤ 4000000 := by omega
  have HXL := Lib.hid h.len
  obtain ⟨A, c, rfl, _⟩ := own_cap h.row
  clear h hB hW hm hs hr hrm hf hru
  go_enter Try.func22, Try.ntmps22
  go_wp2_with (go_at_call 41; (with_reducible refine HRE.out.mono ?_); rintro e w1 ⟨A5, c5, rfl, hrd, hb⟩; have H1 := Lib.hid (And.intro hrd hb); clear hrd hb)
  rename_i hKC
  have HKC := Lib.hid hKC
  clear hKC
  go_loopw [5, 6] (fun y i wr => ∃ (k : Nat) (A : Option Addr) (c : Nat), i = .int .i64 k ∧ k ≤ (ord L roots k).length ∧ y = .slice A (ord L roots k).length c ∧ Rd wr 1 A (ord L roots k).length (ncells (ord L roots k)) ∧ Below w0.heap.size w0 wr) (fun _ i _ => L.length - (intOf i).toNat)
  case atStart => exact ⟨0, A5, c5, rfl, Nat.zero_le _, rfl, H1.out.1, H1.out.2⟩
  case round =>
    obtain ⟨k, A5, c5, rfl, hk, rfl, hrd, hb⟩ := hrel
    have hog := ord_og L roots k
    have hnx := ord_len L roots k
    have hlen := hog.len
    obtain ⟨q, hq⟩ : ∃ q, ord L roots k = q := ⟨_, rfl⟩
    have hstep : ∀ j, q[k]? = some j → ord L roots (k + 1) = reachP L q (ob L j).2 := fun j hj => by rw [ord, hq, hj]
    have hstay := ord_stays L roots (n := k)
    rw [hq] at hk hrd hog hnx hlen hstay ⊢
    have k0 : (0 : Int) ≤ (k : Int) := by omega
    have HQ := Lib.hid (And.intro hrd (And.intro hb (And.intro hog (And.intro hnx hlen))))
    by_cases hlt : k < q.length
    · have k1 : (k : Int) < (q.length : Int) := by omega
      have k2 : (k : Int) < 4000000 := by omega
      obtain ⟨j, hj⟩ : ∃ j, q[k]? = some j := ⟨_, List.getElem?_eq_getElem hlt⟩
      have hjL := hog.lt j (List.mem_of_getElem? hj)
      have j0 : (0 : Int) ≤ (j : Int) := by omega
      have j1 : (j : Int) < (xs.length : Int) := by have := HXL.out; omega
      obtain ⟨b5, o5, hA5, _, f5⟩ := hrd.nat hj
      subst hA5
      obtain ⟨y, hy⟩ : ∃ y, xs[j]? = some y := ⟨_, List.getElem?_eq_getElem (by rw [HXL.out]; omega)⟩
      have hyo : y.o = ob L j := by have h1 := H.out.get hy; unfold ob; rw [h1]; rfl
      obtain ⟨b9, o9, hA9, f9, f10, f11⟩ := (H.out.below hb).at rfl hy
      subst hA9
      obtain ⟨c0, cx1, c2⟩ := cells3 (H.out.below hb).hd
      have HRE2 := Lib.hid (fun (W : World) (hW' : Below wr.heap.size wr W) => reach_any (H.out.below (hb.trans (hW'.mono hb.size))) HX.out.2.2.1 (some ⟨b5, o5, none⟩) y.A c5 y.c q y.o.2 (hrd.below hW') hog (Rd.of_own ((H.out.below (hb.trans (hW'.mono hb.size))).ws y (List.mem_of_getElem? hy))) (by have := (HX.out.2.1.head _ (List.mem_of_getElem? (H.out.get hy))).2.2; omega) (HX.out.2.1.fine _ (List.mem_of_getElem? (H.out.get hy))))
      have HST : Hid (ord L roots (k + 1) = reachP L q y.o.2) := by show ord L roots (k + 1) = _; rw [hyo]; exact hstep j hj
      have HLT := Lib.hid hlt
      clear hrd hb hog hnx hlen hj hjL hk hlt hy hyo hstep hstay hq c0 c2 f9 f10
      go_upto_region 5 with fail
      go_still_tail 13, (by kernel_rfl)
      change wpList _ _ _ _ _ wr.drew
      go_wp2_with (go_at_call 41; (with_reducible refine (HRE2.out _ (below_drew1 wr)).mono ?_); rintro e w3 ⟨A6, c6, rfl, hrd6, hb6⟩; rw [← HST.out] at hrd6; have H6 := Lib.hid (And.intro hrd6 (HQ.out.2.1.trans ((below_then (below_drew1 wr) hb6).mono HQ.out.2.1.size))); clear hrd6 hb6)
      have hQ := HQ.out.2.2
      have hL := HLT.out
      exact ⟨⟨k + 1, A6, c6, by go_num, by omega, by rw [HST.out], H6.out.1, H6.out.2⟩, by simp [intOf] <;> omega⟩
    · have hkk : k = q.length := by omega
      have hF : ordF L roots = q := by
        unfold ordF
        exact hstay (by omega) L.length (by omega)
      have HF := Lib.hid hF
      clear hrd hb hog hnx hlen hk hkk hstep hstay hq hF
      go_wp2_with fail
      refine HKC.out _ _ ?_
      have hQ := HQ.out.1
      rw [← HF.out] at hQ ⊢
      exact coll_places w0 wr A1 A5 c1 c5 H.out HX.out.1 HX.out.2.1 HX.out.2.2.1 HX.out.2.2.2.1 HX.out.2.2.2.2.1 HX.out.2.2.2.2.2.1 HX.out.2.2.2.2.2.2.1 HX.out.2.2.2.2.2.2.2 hQ HQ.out.2.1
end
end Go.Proofs.Ythblcfhflkapmaa
