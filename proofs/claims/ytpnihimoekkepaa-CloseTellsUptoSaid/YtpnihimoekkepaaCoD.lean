/-
  Core expressions in new memory: all of one, by the code.
-/
import Derived.Test.YtpnihimoekkepaaCoC
import Derived.Deep.RegionLaw
namespace Go.Proofs.Ytpnihimoekkepaa
open Go.ChangeShapes Go.WideShapes Go.ChangeAt Go.RowKit Go.Sort
set_option linter.unusedVariables false
set_option linter.unusedSimpArgs false

/-- 'append' in a region that draws its order, and where the new row lies. -/
theorem step_app {P : Program} {t e : TypeId} {z : Value} {size bytes : Nat} (T : ElemTy P t e z size bytes) (w : World) {ops : Array Oper} {o : Oper} {a : Act} {K : Act → World → Prop} {Q : Exit → Act → World → Prop} {E : Prop} (hgd : o.guard = none) (s x : Operand)
    (ho : o.op = .call { callee := .builtin .append, args := #[s, x], argTypes := #[t, t] }) (base : Nat)
    (v : Value) (n : Nat) (xs : List Value) (hs : a.eval s = v) (hown : w.ownsRow base e size v n xs) (A : Option Addr) (m c : Nat) (news : List Value) (hx : a.eval x = .slice A m c) (hr : Rd w size A m news) (h1 : ∀ u ∈ news, u.oneCell' = true)
    (hbytes : (n + m) * bytes ≤ 140737488355328) (hbase : base ≤ w.heap.size)
    (h : ∀ v' w', w'.ownsRow base e size v' (n + m) (xs ++ news) → w.grownBy w' v.ownBlock → (v'.ownBlock = v.ownBlock ∨ v'.ownBlock = some w.heap.size) → K (a.put o.dst v') w') :
    if Region.wanted o (yielded ops a.tmps) = true then Oper.wp P o a w K Q else E := by
  have hw : Region.wanted o (yielded ops a.tmps) = true := by simp [Region.wanted, hgd]
  rw [if_pos hw]
  obtain ⟨v', w', hrun, h2, h3, h4⟩ := run_app T w o.type base v n xs hown A m c news hr h1 hbytes hbase
  unfold Oper.wp execOp
  simp only [ho, resolve, invoke, builtin, Sem.run_bind, Sem.run_pure, Result.andThen_ok, List.map_toArray, List.map_cons, List.map_nil, hs, hx, hrun]
  exact h v' w' h2 h3 h4


theorem Rd.lt_ {w : World} {n : Nat} {A : Option Addr} {cs : List Value} (h : Rd w 1 A n cs) (h0 : 0 < n) {a : Addr} (ha : A = some a) : a.block < w.heap.size := by
  obtain ⟨a', e, hb, _⟩ := h.addr (by rw [h.1]; omega)
  rw [ha] at e; cases e
  exact hb
/-- An expression that is new: in blocks from the call on. -/
def CpR (x : Ex) (w : World) (e : Ending) (w' : World) : Prop := ∃ y : Ex, e = .returned (.agg y.d.arr) ∧ y.In w' ∧ y.Bl (fun b => w.heap.size ≤ b) ∧ y.eqv x ∧ Below w.heap.size w w'
/-- The parts of a copy under way: its own cells in block g, its parts and its names in others; the result's block is the first of W's new ones. -/
structure PiC (W : World) (g : Nat) (d : ExD) (A : Option Addr) (c : Nat) (v : Value) (k : Nat) (ys l : List Ex) (wr : World) : Prop where
  own : wr.ownsRow (g + 1) 25 6 v k (ys.flatMap Ex.cells)
  len : ys.length = k
  eqv : exL ys (l.take k)
  inn : ∀ y ∈ ys, y.In wr
  bl : ∀ y ∈ ys, y.Bl (fun b => g + 1 ≤ b ∧ some b ≠ v.ownBlock)
  hd : wr.heap[g]? = some (.cells #[.int .i64 d.kind, .int .i64 d.n, .string (bstr d.s), .string (bstr d.t), .slice A d.nn c, v] 25)
  rs : wr.heap[W.heap.size]? = some (.cells #[.int .i64 0, .int .i64 0, .string ⟨#[]⟩, .string ⟨#[]⟩, .slice none 0 0, .slice none 0 0] 25)
  b : Below W.heap.size W wr
  hg : W.heap.size < g
  lab : Rd wr 1 A d.nn (strs d.names)
  lb : 0 < d.nn → ∀ a, A = some a → W.heap.size < a.block ∧ a.block ≠ g ∧ some a.block ≠ v.ownBlock
theorem PiC.step {W wr w1 w2 w6 : World} {g k c : Nat} {A : Option Addr} {d : ExD} {v v6 : Value} {ys l : List Ex} {y x : Ex} (h : PiC W g d A c v k ys l wr)
    (hb : Below wr.heap.size wr w1) (hin : y.In w1) (hbl : y.Bl (fun b => wr.heap.size ≤ b)) (he : y.eqv x) (htk : l.take (k + 1) = l.take k ++ [x]) (hw2 : Below w1.heap.size w1 w2)
    (hown : w6.ownsRow (g + 1) 25 6 v6 (k + 1) (ys.flatMap Ex.cells ++ y.cells)) (hgr : w2.grownBy w6 v.ownBlock) (hat : v6.ownBlock = v.ownBlock ∨ v6.ownBlock = some w2.heap.size) :
    PiC W g d A c v6 (k + 1) (ys ++ [y]) l (w6.setCell ⟨g, 5, none⟩ v6) := by
  have hvl : ∀ b, v.ownBlock = some b → g + 1 ≤ b ∧ b < wr.heap.size := fun b hb' => h.own.lt b hb'
  have hgw : g < wr.heap.size := lt_of_heap h.hd
  have hg1 := h.hg
  have hs1 := hb.size
  have hs2 := hw2.size
  have hall : ∀ b, b < w1.heap.size → some b ≠ v.ownBlock → w6.heap[b]? = w1.heap[b]? := fun b h1 h2 =>
    (hgr.block b (Nat.lt_of_lt_of_le h1 hw2.size) h2).trans (hw2.block b h1)
  have hgv : some g ≠ v.ownBlock := fun e => by have := hvl g e.symm; omega
  have hrv : some W.heap.size ≠ v.ownBlock := fun e => by have := hvl _ e.symm; omega
  have hyb : y.Bl (fun b => g + 1 ≤ b ∧ some b ≠ v.ownBlock) := hbl.imp hin (fun b h1 _ => ⟨by omega, fun e => by have := hvl b e.symm; omega⟩)
  have hz : ∀ z ∈ ys ++ [y], z.In w1 ∧ z.Bl (fun b => g + 1 ≤ b ∧ some b ≠ v.ownBlock) := fun z hz => by
    rcases List.mem_append.1 hz with hz | hz
    · exact ⟨(h.inn z hz).lower hb, h.bl z hz⟩
    · rw [List.mem_singleton] at hz; subst hz; exact ⟨hin, hyb⟩
  have h6 : ∀ z ∈ ys ++ [y], z.In w6 := fun z hzm => (hz z hzm).1.keepP (hz z hzm).2 (fun b hb' hl => hall b hl hb'.2)
  have hg6 : w6.heap[g]? = some (.cells #[.int .i64 d.kind, .int .i64 d.n, .string (bstr d.s), .string (bstr d.t), .slice A d.nn c, v] 25) := (hall g (Nat.lt_of_lt_of_le hgw hb.size) hgv).trans ((hb.block g hgw).trans h.hd)
  have hno : ∀ b, b < w1.heap.size → some b ≠ v.ownBlock → some b ≠ v6.ownBlock := fun b h1 h2 => by
    rcases hat with q | q
    · rw [q]; exact h2
    · rw [q]; intro e; injection e with e; omega
  refine ⟨?_, by rw [List.length_append, h.len]; rfl, by rw [htk]; exact exL_snoc h.eqv he, fun z hzm => (h6 z hzm).keepP (hz z hzm).2 (fun b hb' _ => Below.heap_setCell w6 _ _ b (by show b ≠ g; omega)), fun z hzm => ?_, ?_, ?_, ?_, h.hg, ?_, fun hn a ha => ?_⟩
  · rw [List.flatMap_append, List.flatMap_cons, List.flatMap_nil, List.append_nil]
    exact ownsRow_setCell_below hown (by show g < _; omega) _
  · exact (hz z hzm).2.imp (hz z hzm).1 (fun b hb' hl => ⟨hb'.1, hno b hl hb'.2⟩)
  · simp [World.setCell, Array.getElem?_modify, hg6]
  · rw [show (w6.setCell ⟨g, 5, none⟩ v6).heap[W.heap.size]? = w6.heap[W.heap.size]? from Below.heap_setCell w6 _ _ _ (by show W.heap.size ≠ g; omega)]
    exact (hall _ (by omega) hrv).trans ((hb.block _ (by omega)).trans h.rs)
  · have h1 : Below W.heap.size W w2 := below_then (below_then h.b hb) hw2
    exact (h1.grown hgr h1.size (fun q hq => by have := hvl q hq; omega)).setCell (p := ⟨g, 5, none⟩) (by show W.heap.size ≤ g; omega) _
  · refine rd_keepP (P := fun b => b ≠ g ∧ some b ≠ v.ownBlock ∧ b < w1.heap.size) (h.lab.below hb) (fun hn a ha => ⟨(h.lb hn a ha).2.1, (h.lb hn a ha).2.2, (h.lab.below hb).lt_ hn ha⟩) (fun b hb' hl => ?_)
    rw [show (w6.setCell ⟨g, 5, none⟩ v6).heap[b]? = w6.heap[b]? from Below.heap_setCell w6 _ _ _ (by show b ≠ g; exact hb'.1)]
    exact hall b hl hb'.2.1
  · exact ⟨(h.lb hn a ha).1, (h.lb hn a ha).2.1, hno _ ((h.lab.below hb).lt_ hn ha) (h.lb hn a ha).2.2⟩
/-- A result that is written into its cell. -/
theorem rc_end {u W : World} {g n : Nat} {y : Ex} (hI : y.In u) (hB : y.Bl (fun b => n ≤ b)) (hg : g < n) (hW : Below W.heap.size W u) (hWg : W.heap.size ≤ g) {x0 x1 x2 x3 x4 x5 : Value} {T : TypeId} {fr : Nat × Nat} (h : u.heap[g]? = some (.cells #[x0, x1, x2, x3, x4, x5] T fr)) (a0 a1 a2 a3 a4 a5 : Value) :
    y.In (put6 u g a0 a1 a2 a3 a4 a5) ∧ Below W.heap.size W (put6 u g a0 a1 a2 a3 a4 a5) ∧ (put6 u g a0 a1 a2 a3 a4 a5).heap[g]? = some (.cells #[a0, a1, a2, a3, a4, a5] T fr) :=
  ⟨hI.keepP hB (fun b hb _ => put6_other u g _ _ _ _ _ _ (by omega)), put6_below hW hWg _ _ _ _ _ _, put6_box u g h _ _ _ _ _ _⟩

set_option maxRecDepth 100000 in
set_option maxHeartbeats 2000000 in
theorem copied_any (w0 : World) (t : Ex) (hI : t.In w0) : ∀ (b o : Nat) (W : World), t.d.At w0 b o → Below w0.heap.size w0 W → Calls Try.prog 32 #[.pointer (some ⟨b, o, none⟩)] W (CpR t W) := by
  induction hI with
  | mk d l nam par cap sub ih =>
  intro b o W hAt hb
  have hI : (Ex.mk d l).In w0 := .mk d l nam par cap sub
  have HE := Lib.hid (fun V (h : Below w0.heap.size w0 V) => (show d.At w0 b o from hAt).lower h)
  have HB := Lib.hid hb
  have HI := Lib.hid hI
  have HX := Lib.hid ih
  have HL := Lib.hid (show l.length = d.pn from hI.len)
  have HCP := Lib.hid cap
  have hb1 : Below W.heap.size W (W.alloc (.cells #[.int .i64 0, .int .i64 0, .string ⟨#[]⟩, .string ⟨#[]⟩, .slice none 0 0, .slice none 0 0] 25)) := (Below.refl _ _).alloc (Nat.le_refl _) _
  have HG := Lib.hid (heap_alloc_new W (.cells #[.int .i64 0, .int .i64 0, .string ⟨#[]⟩, .string ⟨#[]⟩, .slice none 0 0, .slice none 0 0] 25))
  have HB1 := Lib.hid hb1
  have HOW := Lib.hid (own_any w0 d l hI b o (W.alloc (.cells #[.int .i64 0, .int .i64 0, .string ⟨#[]⟩, .string ⟨#[]⟩, .slice none 0 0, .slice none 0 0] 25)) hAt (below_then hb hb1))
  clear nam par cap sub ih hAt hb hI hb1
  go_enter Try.func32, Try.ntmps32
  go_wp2_with fail
  refine HOW.out.mono ?_
  rintro e w2 ⟨A, c, rfl, h1, h2, h3, h4, h5⟩
  have hb3 : Below w2.heap.size w2 (w2.alloc (.cells #[.int .i64 d.kind, .int .i64 d.n, .string (bstr d.s), .string (bstr d.t), .slice A d.nn c, .slice none 0 0] 25)) := (Below.refl _ _).alloc (Nat.le_refl _) _
  have hsz : (W.alloc (.cells #[.int .i64 0, .int .i64 0, .string ⟨#[]⟩, .string ⟨#[]⟩, .slice none 0 0, .slice none 0 0] 25)).heap.size = W.heap.size + 1 := World.size_alloc _ _
  have hs5 := h5.size
  have HPI : RowKit.Hid (PiC W w2.heap.size d A c (.slice none 0 0) 0 [] l (w2.alloc (.cells #[.int .i64 d.kind, .int .i64 d.n, .string (bstr d.s), .string (bstr d.t), .slice A d.nn c, .slice none 0 0] 25))) := Lib.hid ⟨World.ownsRow_nil _ _ _ _, rfl, by rw [List.take_zero]; trivial, (fun y hy => by cases hy), (fun y hy => by cases hy), heap_alloc_new w2 _, (hb3.block _ (by omega)).trans ((h5.block _ (by omega)).trans HG.out), below_then HB1.out (below_then h5 hb3), by omega, h1.below hb3, fun hn a ha => ⟨by have := h2 hn a ha; omega, by have := h1.lt_ hn ha; omega, fun e => by cases e⟩⟩
  have HCC := Lib.hid (And.intro h3 h4)
  clear h1 h2 h3 h4 h5 hb3 hs5 hsz HOW HG HB1
  go_upto_region 2 with fail
  generalize (w2.alloc (.cells #[.int .i64 d.kind, .int .i64 d.n, .string (bstr d.s), .string (bstr d.t), .slice A d.nn c, .slice none 0 0] 25)) = w3 at *
  obtain ⟨g, hg⟩ : ∃ g, w2.heap.size = g := ⟨_, rfl⟩
  rw [hg] at HPI ⊢
  clear hg
  obtain ⟨c0, c1, c2, c3, c4, c5⟩ := HE.out _ (below_then HB.out HPI.out.b)
  go_wp2_with fail
  clear c0 c1 c2 c3 c4 c5
  go_loopw [12] (fun i wr => ∃ (k : Nat) (ys : List Ex) (v : Value), i = .int .i64 k ∧ k ≤ d.pn ∧ PiC W g d A c v k ys l wr) (fun i _ => d.pn - (intOf i).toNat)
  case atStart => exact ⟨0, [], _, rfl, Nat.zero_le _, HPI.out⟩
  case round =>
    obtain ⟨k, ys, v, rfl, hk, hS⟩ := hrel
    obtain ⟨A1, k1, rfl, _⟩ := own_cap hS.own
    have HS1 := Lib.hid hS
    by_cases hlt : k < d.pn
    · have hkl : k < l.length := by rw [HL.out]; exact hlt
      obtain ⟨pb, po, hpA, hAtP⟩ := HI.out.part (k := k) hkl
      have hpA' : d.pA = some ⟨pb, po, none⟩ := hpA
      have HWB := Lib.hid (below_then HB.out hS.b)
      have HM := Lib.hid (HX.out l[k] (List.getElem_mem hkl) pb (po + k * 6) wr.drew (hAtP k hkl) (below_then HWB.out (below_drew1 wr)))
      have HTK := Lib.hid (show l.take (k + 1) = l.take k ++ [l[k]] from List.take_succ_eq_append_getElem hkl)
      obtain ⟨x, hx⟩ : ∃ x, l[k] = x := ⟨_, rfl⟩
      rw [hx] at HM HTK
      have c5 := (HE.out _ HWB.out).c5
      rw [hpA'] at c5
      obtain ⟨_, _, _, _, _, t5⟩ := cells6 hS.hd
      have HGL := Lib.hid (lt_of_heap hS.hd)
      have hki : (k : Int) < (d.pn : Int) := by omega
      have hk0 : (0 : Int) ≤ (k : Int) := by omega
      have hk4 : (k : Int) ≤ 4000000 := by have := HCP.out.2.1.2.2; omega
      have HBY := Lib.hid (show (k + 1) * 96 ≤ 140737488355328 by have := HCP.out.2.1.2.2; omega)
      clear hpA hpA' hAtP hkl hx hS
      go_wp2_with fail
      go_region_law (first
        | (go_simp; go_at_call 32; (with_reducible refine HM.out.mono ?_); rintro e w1 ⟨y, rfl, hin, hbl, he, hb1⟩; have hbw : Below wr.heap.size wr w1 := below_then (below_drew1 wr) hb1; have H1 := Lib.hid (And.intro hin (And.intro (show y.Bl (fun b => wr.heap.size ≤ b) from hbl) (And.intro he hbw))); have hh1 := (hbw.block g HGL.out).trans HS1.out.hd; have hby : Below w1.heap.size w1 (w1.alloc (.cells #[.int .i64 y.d.kind, .int .i64 y.d.n, .string (bstr y.d.s), .string (bstr y.d.t), .slice y.d.nA y.d.nn y.d.nc, .slice y.d.pA y.d.pn y.d.pc] 25)) := (Below.refl _ _).alloc (Nat.le_refl _) _; have g2 : w1.cell? ⟨g, 5, none⟩ = some (.slice A1 k k1) := (cells6 hh1).2.2.2.2.2; have g3 := cell_below hby g2; have HOW := Lib.hid (own_below (own_below HS1.out.own hbw) hby); have HRD := Lib.hid (Rd.lit (size := 6) (n := 1) w1 #[.int .i64 y.d.kind, .int .i64 y.d.n, .string (bstr y.d.s), .string (bstr y.d.t), .slice y.d.nA y.d.nn y.d.nc, .slice y.d.pA y.d.pn y.d.pc] 25 rfl (fr := (0, 0))); have HSZ := Lib.hid (show g + 1 ≤ (w1.alloc (.cells #[.int .i64 y.d.kind, .int .i64 y.d.n, .string (bstr y.d.s), .string (bstr y.d.t), .slice y.d.nA y.d.nn y.d.nc, .slice y.d.pA y.d.pn y.d.pc] 25)).heap.size by have := HGL.out; have := hbw.size; rw [World.size_alloc]; omega); have HBB := Lib.hid hby; have HH1 := Lib.hid hh1; clear hin hbl he hb1 hbw hby hh1)
        | (refine step_app elCore (w1.alloc (.cells #[.int .i64 y.d.kind, .int .i64 y.d.n, .string (bstr y.d.s), .string (bstr y.d.t), .slice y.d.nA y.d.nn y.d.nc, .slice y.d.pA y.d.pn y.d.pc] 25)) (by rfl) (.tmp 16) (.tmp 24) (by rfl) (g + 1) (.slice A1 k k1) k _ (by rfl) HOW.out (some ⟨w1.heap.size, 0, none⟩) 1 1 _ (by rfl) HRD.out (ex_ones y) HBY.out HSZ.out ?_; intro v6 w6 hown6 hg6 ho6; obtain ⟨A6, k6, hv6, _⟩ := own_cap hown6; rw [hv6] at hown6 ho6 ⊢; clear hv6; have H6 := Lib.hid (And.intro hown6 (And.intro hg6 ho6)); have hh6 : w6.heap[g]? = some (.cells #[.int .i64 d.kind, .int .i64 d.n, .string (bstr d.s), .string (bstr d.t), .slice A d.nn c, .slice A1 k k1] 25) := (hg6.block g (Nat.lt_of_lt_of_le (lt_of_heap HH1.out) HBB.out.size) (fun e => by have := (HS1.out.own.lt g e.symm).1; omega)).trans ((HBB.out.block g (lt_of_heap HH1.out)).trans HH1.out); have g6 : w6.cell? ⟨g, 5, none⟩ = some (.slice A1 k k1) := (cells6 hh6).2.2.2.2.2; have f6 := (frozen6 hh6).2.2.2.2.2; clear hown6 hg6 ho6 hh6)
        | fail)
      all_goals
        go_wp2_with fail
        have H7 := Lib.hid (HS1.out.step H1.out.2.2.2 H1.out.1 H1.out.2.1 H1.out.2.2.1 HTK.out HBB.out H6.out.1 H6.out.2.1 H6.out.2.2)
        go_roundw
        case rel => exact ⟨k + 1, ys ++ [y], _, by go_num, hlt, H7.out⟩
        case measure => simp [intOf] <;> omega
    · have hki : ¬ (k : Int) < (d.pn : Int) := by omega
      obtain rfl : k = d.pn := by omega
      have hmm : l.take d.pn = l := List.take_of_length_le (by rw [HL.out]; omega)
      have HEV := Lib.hid (show exL ys l by have h := hS.eqv; rwa [hmm] at h)
      obtain ⟨t0, t1, t2, t3, t4, t5⟩ := cells6 hS.hd
      obtain ⟨r0, r1, r2, r3, r4, r5⟩ := cells6 hS.rs
      obtain ⟨z0, z1, z2, z3, z4, z5⟩ := frozen6 hS.rs
      obtain ⟨A2, k2, hv2, hc1, hc2, _⟩ := own_cap hS.own
      injection hv2 with h1 h2 h3
      subst h1
      subst h3
      have HIN : RowKit.Hid ((Ex.mk ⟨d.kind, d.n, d.s, d.t, A, d.nn, c, d.names, A1, d.pn, k1⟩ ys).In wr) := Lib.hid (.mk _ _ hS.lab (Rd.of_own hS.own) ⟨⟨HCC.out.1, HCC.out.2, HCP.out.1.2.2⟩, ⟨hc1, hc2, HCP.out.2.1.2.2⟩, HCP.out.2.2⟩ hS.inn)
      have HBL : RowKit.Hid ((Ex.mk ⟨d.kind, d.n, d.s, d.t, A, d.nn, c, d.names, A1, d.pn, k1⟩ ys).Bl (fun b => W.heap.size + 1 ≤ b)) := Lib.hid (.mk _ _ (fun hn a ha => (hS.lb hn a ha).1) (fun _ a ha => by have := (hS.own.lt a.block (by rw [show A1 = some a from ha]; rfl)).1; have := hS.hg; omega) (fun y hy => (hS.bl y hy).imp (hS.inn y hy) (fun b hb _ => by have := hb.1; have := hS.hg; omega)))
      have HEN := Lib.hid (show (Ex.mk ⟨d.kind, d.n, d.s, d.t, A, d.nn, c, d.names, A1, d.pn, k1⟩ ys).In ((((((wr.setCell ⟨W.heap.size, 0, none⟩ (.int .i64 d.kind)).setCell ⟨W.heap.size, 1, none⟩ (.int .i64 d.n)).setCell ⟨W.heap.size, 2, none⟩ (.string (bstr d.s))).setCell ⟨W.heap.size, 3, none⟩ (.string (bstr d.t))).setCell ⟨W.heap.size, 4, none⟩ (.slice A d.nn c)).setCell ⟨W.heap.size, 5, none⟩ (.slice A1 d.pn k1)) ∧ Below W.heap.size W ((((((wr.setCell ⟨W.heap.size, 0, none⟩ (.int .i64 d.kind)).setCell ⟨W.heap.size, 1, none⟩ (.int .i64 d.n)).setCell ⟨W.heap.size, 2, none⟩ (.string (bstr d.s))).setCell ⟨W.heap.size, 3, none⟩ (.string (bstr d.t))).setCell ⟨W.heap.size, 4, none⟩ (.slice A d.nn c)).setCell ⟨W.heap.size, 5, none⟩ (.slice A1 d.pn k1)) ∧ ((((((wr.setCell ⟨W.heap.size, 0, none⟩ (.int .i64 d.kind)).setCell ⟨W.heap.size, 1, none⟩ (.int .i64 d.n)).setCell ⟨W.heap.size, 2, none⟩ (.string (bstr d.s))).setCell ⟨W.heap.size, 3, none⟩ (.string (bstr d.t))).setCell ⟨W.heap.size, 4, none⟩ (.slice A d.nn c)).setCell ⟨W.heap.size, 5, none⟩ (.slice A1 d.pn k1)).heap[W.heap.size]? = some (.cells #[.int .i64 d.kind, .int .i64 d.n, .string (bstr d.s), .string (bstr d.t), .slice A d.nn c, .slice A1 d.pn k1] 25) from rc_end HIN.out HBL.out (Nat.lt_succ_self _) hS.b (Nat.le_refl _) hS.rs (.int .i64 d.kind) (.int .i64 d.n) (.string (bstr d.s)) (.string (bstr d.t)) (.slice A d.nn c) (.slice A1 d.pn k1))
      clear hS hc1 hc2
      go_wp2_with fail
      clear t0 t1 t2 t3 t4 t5 r0 r1 r2 r3 r4 r5 z0 z1 z2 z3 z4 z5
      generalize ((((((wr.setCell ⟨W.heap.size, 0, none⟩ (.int .i64 d.kind)).setCell ⟨W.heap.size, 1, none⟩ (.int .i64 d.n)).setCell ⟨W.heap.size, 2, none⟩ (.string (bstr d.s))).setCell ⟨W.heap.size, 3, none⟩ (.string (bstr d.t))).setCell ⟨W.heap.size, 4, none⟩ (.slice A d.nn c)).setCell ⟨W.heap.size, 5, none⟩ (.slice A1 d.pn k1)) = w7 at *
      obtain ⟨e0, e1, e2, e3, e4, e5⟩ := cells6 HEN.out.2.2
      refine bodyPost_ret (by simp [results, Try.results32, go_sem, e0, e1, e2, e3, e4, e5]; try rfl) rfl ?_
      exact ⟨Ex.mk ⟨d.kind, d.n, d.s, d.t, A, d.nn, c, d.names, A1, d.pn, k1⟩ ys, rfl, HEN.out.1, HBL.out.imp HIN.out (fun b hb _ => by omega), ⟨rfl, rfl, rfl, rfl, rfl, HEV.out⟩, HEN.out.2.1⟩
end Go.Proofs.Ytpnihimoekkepaa
