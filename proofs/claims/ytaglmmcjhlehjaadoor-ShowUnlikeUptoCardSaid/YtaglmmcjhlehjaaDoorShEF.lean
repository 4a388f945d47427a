/-
  An expression's text, by the code.
  An expression's text, by the code, whole.
-/
import Derived.Test.YtaglmmcjhlehjaaDoorShCD
import Derived.Test.YtaglmmcjhlehjaaDoorRmCD
import Derived.Test.YtaglmmcjhlehjaaDoorExG
import Derived.Lib.UnsafeStr
namespace Go.Proofs.YtaglmmcjhlehjaaDoor
open Go.ChangeShapes Go.WideShapes Go.ChangeAt Go.RowKit Go.Sort
set_option linter.unusedVariables false
set_option linter.unusedSimpArgs false


set_option maxRecDepth 100000 in
set_option maxHeartbeats 2000000 in
theorem whole_8 (w0 : World) (d : ExD) (wt : Nat) (hk : d.kind = 8) (r : Str) (HF : FunAt 17 w0 d wt r) : FunAt 10 w0 d wt r := by
  intro b b' o' acc w hAt hst hlen
  have H0 := Lib.hid hst
  have HA := Lib.hid hAt
  have HL := Lib.hid hlen
  have HE := Lib.hid (fun W (h : Below w0.heap.size w0 W) => hAt.lower h)
  obtain ⟨c0, c1, c2, c3, c4, c5, c6, c7⟩ := hAt.lower hst.all
  have q1 : (d.kind == 1) = false := by rw [hk]; rfl
  have q2 : (d.kind == 2) = false := by rw [hk]; rfl
  have q3 : (d.kind == 3) = false := by rw [hk]; rfl
  have q22 : (d.kind == 22) = false := by rw [hk]; rfl
  have q8 : (d.kind == 8) = true := by rw [hk]; rfl
  have HF := Lib.hid HF
  clear hAt hst hlen hk
  go_enter Tryd.func10, Tryd.ntmps10
  go_wp2_with fail
  refine (HF.out.step H0.out HA.out HL.out).mono ?_
  rintro e v1 ⟨rfl, hs1⟩
  have H1 := Lib.hid hs1
  clear hs1 c0 c1 c2 c3 c4 c5 c6 c7
  go_wp2_with fail
  go_end0
  exact ⟨rfl, H1.out⟩

set_option maxRecDepth 100000 in
set_option maxHeartbeats 2000000 in
theorem whole_10 (w0 : World) (d : ExD) (wt : Nat) (hk : d.kind = 10) (r : Str) (HF : FunAt 17 w0 d wt r) : FunAt 10 w0 d wt r := by
  intro b b' o' acc w hAt hst hlen
  have H0 := Lib.hid hst
  have HA := Lib.hid hAt
  have HL := Lib.hid hlen
  have HE := Lib.hid (fun W (h : Below w0.heap.size w0 W) => hAt.lower h)
  obtain ⟨c0, c1, c2, c3, c4, c5, c6, c7⟩ := hAt.lower hst.all
  have q1 : (d.kind == 1) = false := by rw [hk]; rfl
  have q2 : (d.kind == 2) = false := by rw [hk]; rfl
  have q3 : (d.kind == 3) = false := by rw [hk]; rfl
  have q22 : (d.kind == 22) = false := by rw [hk]; rfl
  have q8 : (d.kind == 8) = false := by rw [hk]; rfl
  have q10 : (d.kind == 10) = true := by rw [hk]; rfl
  have HF := Lib.hid HF
  clear hAt hst hlen hk
  go_enter Tryd.func10, Tryd.ntmps10
  go_wp2_with fail
  refine (HF.out.step H0.out HA.out HL.out).mono ?_
  rintro e v1 ⟨rfl, hs1⟩
  have H1 := Lib.hid hs1
  clear hs1 c0 c1 c2 c3 c4 c5 c6 c7
  go_wp2_with fail
  go_end0
  exact ⟨rfl, H1.out⟩

set_option maxRecDepth 100000 in
set_option maxHeartbeats 2000000 in
theorem whole_12 (w0 : World) (d : ExD) (wt : Nat) (hk : d.kind = 12) (r : Str) (HF : FunAt 17 w0 d wt r) : FunAt 10 w0 d wt r := by
  intro b b' o' acc w hAt hst hlen
  have H0 := Lib.hid hst
  have HA := Lib.hid hAt
  have HL := Lib.hid hlen
  have HE := Lib.hid (fun W (h : Below w0.heap.size w0 W) => hAt.lower h)
  obtain ⟨c0, c1, c2, c3, c4, c5, c6, c7⟩ := hAt.lower hst.all
  have q1 : (d.kind == 1) = false := by rw [hk]; rfl
  have q2 : (d.kind == 2) = false := by rw [hk]; rfl
  have q3 : (d.kind == 3) = false := by rw [hk]; rfl
  have q22 : (d.kind == 22) = false := by rw [hk]; rfl
  have q8 : (d.kind == 8) = false := by rw [hk]; rfl
  have q10 : (d.kind == 10) = false := by rw [hk]; rfl
  have q12 : (d.kind == 12) = true := by rw [hk]; rfl
  have HF := Lib.hid HF
  clear hAt hst hlen hk
  go_enter Tryd.func10, Tryd.ntmps10
  go_wp2_with fail
  refine (HF.out.step H0.out HA.out HL.out).mono ?_
  rintro e v1 ⟨rfl, hs1⟩
  have H1 := Lib.hid hs1
  clear hs1 c0 c1 c2 c3 c4 c5 c6 c7
  go_wp2_with fail
  go_end0
  exact ⟨rfl, H1.out⟩

set_option maxRecDepth 100000 in
set_option maxHeartbeats 2000000 in
theorem whole_4 (w0 : World) (d : ExD) (wt : Nat) (hk : d.kind = 4) (r : Str) (HF : FunAt 18 w0 d wt r) : FunAt 10 w0 d wt r := by
  intro b b' o' acc w hAt hst hlen
  have H0 := Lib.hid hst
  have HA := Lib.hid hAt
  have HL := Lib.hid hlen
  have HE := Lib.hid (fun W (h : Below w0.heap.size w0 W) => hAt.lower h)
  obtain ⟨c0, c1, c2, c3, c4, c5, c6, c7⟩ := hAt.lower hst.all
  have q1 : (d.kind == 1) = false := by rw [hk]; rfl
  have q2 : (d.kind == 2) = false := by rw [hk]; rfl
  have q3 : (d.kind == 3) = false := by rw [hk]; rfl
  have q22 : (d.kind == 22) = false := by rw [hk]; rfl
  have q8 : (d.kind == 8) = false := by rw [hk]; rfl
  have q10 : (d.kind == 10) = false := by rw [hk]; rfl
  have q12 : (d.kind == 12) = false := by rw [hk]; rfl
  have q4 : (d.kind == 4) = true := by rw [hk]; rfl
  have HF := Lib.hid HF
  clear hAt hst hlen hk
  go_enter Tryd.func10, Tryd.ntmps10
  go_wp2_with fail
  refine (HF.out.step H0.out HA.out HL.out).mono ?_
  rintro e v1 ⟨rfl, hs1⟩
  have H1 := Lib.hid hs1
  clear hs1 c0 c1 c2 c3 c4 c5 c6 c7
  go_wp2_with fail
  go_end0
  exact ⟨rfl, H1.out⟩

set_option maxRecDepth 100000 in
set_option maxHeartbeats 2000000 in
theorem whole_6 (w0 : World) (d : ExD) (wt : Nat) (hk : d.kind = 6) (r : Str) (HF : FunAt 18 w0 d wt r) : FunAt 10 w0 d wt r := by
  intro b b' o' acc w hAt hst hlen
  have H0 := Lib.hid hst
  have HA := Lib.hid hAt
  have HL := Lib.hid hlen
  have HE := Lib.hid (fun W (h : Below w0.heap.size w0 W) => hAt.lower h)
  obtain ⟨c0, c1, c2, c3, c4, c5, c6, c7⟩ := hAt.lower hst.all
  have q1 : (d.kind == 1) = false := by rw [hk]; rfl
  have q2 : (d.kind == 2) = false := by rw [hk]; rfl
  have q3 : (d.kind == 3) = false := by rw [hk]; rfl
  have q22 : (d.kind == 22) = false := by rw [hk]; rfl
  have q8 : (d.kind == 8) = false := by rw [hk]; rfl
  have q10 : (d.kind == 10) = false := by rw [hk]; rfl
  have q12 : (d.kind == 12) = false := by rw [hk]; rfl
  have q4 : (d.kind == 4) = false := by rw [hk]; rfl
  have q6 : (d.kind == 6) = true := by rw [hk]; rfl
  have HF := Lib.hid HF
  clear hAt hst hlen hk
  go_enter Tryd.func10, Tryd.ntmps10
  go_wp2_with fail
  refine (HF.out.step H0.out HA.out HL.out).mono ?_
  rintro e v1 ⟨rfl, hs1⟩
  have H1 := Lib.hid hs1
  clear hs1 c0 c1 c2 c3 c4 c5 c6 c7
  go_wp2_with fail
  go_end0
  exact ⟨rfl, H1.out⟩

set_option maxRecDepth 100000 in
set_option maxHeartbeats 2000000 in
theorem whole_7 (w0 : World) (d : ExD) (wt : Nat) (hk : d.kind = 7) (r : Str) (HF : FunAt 18 w0 d wt r) : FunAt 10 w0 d wt r := by
  intro b b' o' acc w hAt hst hlen
  have H0 := Lib.hid hst
  have HA := Lib.hid hAt
  have HL := Lib.hid hlen
  have HE := Lib.hid (fun W (h : Below w0.heap.size w0 W) => hAt.lower h)
  obtain ⟨c0, c1, c2, c3, c4, c5, c6, c7⟩ := hAt.lower hst.all
  have q1 : (d.kind == 1) = false := by rw [hk]; rfl
  have q2 : (d.kind == 2) = false := by rw [hk]; rfl
  have q3 : (d.kind == 3) = false := by rw [hk]; rfl
  have q22 : (d.kind == 22) = false := by rw [hk]; rfl
  have q8 : (d.kind == 8) = false := by rw [hk]; rfl
  have q10 : (d.kind == 10) = false := by rw [hk]; rfl
  have q12 : (d.kind == 12) = false := by rw [hk]; rfl
  have q4 : (d.kind == 4) = false := by rw [hk]; rfl
  have q6 : (d.kind == 6) = false := by rw [hk]; rfl
  have q7 : (d.kind == 7) = true := by rw [hk]; rfl
  have HF := Lib.hid HF
  clear hAt hst hlen hk
  go_enter Tryd.func10, Tryd.ntmps10
  go_wp2_with fail
  refine (HF.out.step H0.out HA.out HL.out).mono ?_
  rintro e v1 ⟨rfl, hs1⟩
  have H1 := Lib.hid hs1
  clear hs1 c0 c1 c2 c3 c4 c5 c6 c7
  go_wp2_with fail
  go_end0
  exact ⟨rfl, H1.out⟩

set_option maxRecDepth 100000 in
set_option maxHeartbeats 2000000 in
theorem whole_15 (w0 : World) (d : ExD) (wt : Nat) (hk : d.kind = 15) (r : Str) (HF : FunAt 18 w0 d wt r) : FunAt 10 w0 d wt r := by
  intro b b' o' acc w hAt hst hlen
  have H0 := Lib.hid hst
  have HA := Lib.hid hAt
  have HL := Lib.hid hlen
  have HE := Lib.hid (fun W (h : Below w0.heap.size w0 W) => hAt.lower h)
  obtain ⟨c0, c1, c2, c3, c4, c5, c6, c7⟩ := hAt.lower hst.all
  have q1 : (d.kind == 1) = false := by rw [hk]; rfl
  have q2 : (d.kind == 2) = false := by rw [hk]; rfl
  have q3 : (d.kind == 3) = false := by rw [hk]; rfl
  have q22 : (d.kind == 22) = false := by rw [hk]; rfl
  have q8 : (d.kind == 8) = false := by rw [hk]; rfl
  have q10 : (d.kind == 10) = false := by rw [hk]; rfl
  have q12 : (d.kind == 12) = false := by rw [hk]; rfl
  have q4 : (d.kind == 4) = false := by rw [hk]; rfl
  have q6 : (d.kind == 6) = false := by rw [hk]; rfl
  have q7 : (d.kind == 7) = false := by rw [hk]; rfl
  have q15 : (d.kind == 15) = true := by rw [hk]; rfl
  have HF := Lib.hid HF
  clear hAt hst hlen hk
  go_enter Tryd.func10, Tryd.ntmps10
  go_wp2_with fail
  refine (HF.out.step H0.out HA.out HL.out).mono ?_
  rintro e v1 ⟨rfl, hs1⟩
  have H1 := Lib.hid hs1
  clear hs1 c0 c1 c2 c3 c4 c5 c6 c7
  go_wp2_with fail
  go_end0
  exact ⟨rfl, H1.out⟩

set_option maxRecDepth 100000 in
set_option maxHeartbeats 2000000 in
theorem whole_14 (w0 : World) (d : ExD) (wt : Nat) (hk : d.kind = 14) (r : Str) (HF : FunAt 18 w0 d wt r) : FunAt 10 w0 d wt r := by
  intro b b' o' acc w hAt hst hlen
  have H0 := Lib.hid hst
  have HA := Lib.hid hAt
  have HL := Lib.hid hlen
  have HE := Lib.hid (fun W (h : Below w0.heap.size w0 W) => hAt.lower h)
  obtain ⟨c0, c1, c2, c3, c4, c5, c6, c7⟩ := hAt.lower hst.all
  have q1 : (d.kind == 1) = false := by rw [hk]; rfl
  have q2 : (d.kind == 2) = false := by rw [hk]; rfl
  have q3 : (d.kind == 3) = false := by rw [hk]; rfl
  have q22 : (d.kind == 22) = false := by rw [hk]; rfl
  have q8 : (d.kind == 8) = false := by rw [hk]; rfl
  have q10 : (d.kind == 10) = false := by rw [hk]; rfl
  have q12 : (d.kind == 12) = false := by rw [hk]; rfl
  have q4 : (d.kind == 4) = false := by rw [hk]; rfl
  have q6 : (d.kind == 6) = false := by rw [hk]; rfl
  have q7 : (d.kind == 7) = false := by rw [hk]; rfl
  have q15 : (d.kind == 15) = false := by rw [hk]; rfl
  have q14 : (d.kind == 14) = true := by rw [hk]; rfl
  have HF := Lib.hid HF
  clear hAt hst hlen hk
  go_enter Tryd.func10, Tryd.ntmps10
  go_wp2_with fail
  refine (HF.out.step H0.out HA.out HL.out).mono ?_
  rintro e v1 ⟨rfl, hs1⟩
  have H1 := Lib.hid hs1
  clear hs1 c0 c1 c2 c3 c4 c5 c6 c7
  go_wp2_with fail
  go_end0
  exact ⟨rfl, H1.out⟩

set_option maxRecDepth 100000 in
set_option maxHeartbeats 2000000 in
theorem whole_0 (w0 : World) (d : ExD) (wt : Nat) (hk : ¬ (d.kind = 1 ∨ d.kind = 2 ∨ d.kind = 3 ∨ d.kind = 22 ∨ d.kind = 8 ∨ d.kind = 10 ∨ d.kind = 12 ∨ d.kind = 4 ∨ d.kind = 6 ∨ d.kind = 7 ∨ d.kind = 15 ∨ d.kind = 14)) (r : Str) (HF : FunAt 19 w0 d wt r) : FunAt 10 w0 d wt r := by
  intro b b' o' acc w hAt hst hlen
  have H0 := Lib.hid hst
  have HA := Lib.hid hAt
  have HL := Lib.hid hlen
  have HE := Lib.hid (fun W (h : Below w0.heap.size w0 W) => hAt.lower h)
  obtain ⟨c0, c1, c2, c3, c4, c5, c6, c7⟩ := hAt.lower hst.all
  have q1 : (d.kind == 1) = false := by simpa using (show ¬ d.kind = 1 by omega)
  have q2 : (d.kind == 2) = false := by simpa using (show ¬ d.kind = 2 by omega)
  have q3 : (d.kind == 3) = false := by simpa using (show ¬ d.kind = 3 by omega)
  have q22 : (d.kind == 22) = false := by simpa using (show ¬ d.kind = 22 by omega)
  have q8 : (d.kind == 8) = false := by simpa using (show ¬ d.kind = 8 by omega)
  have q10 : (d.kind == 10) = false := by simpa using (show ¬ d.kind = 10 by omega)
  have q12 : (d.kind == 12) = false := by simpa using (show ¬ d.kind = 12 by omega)
  have q4 : (d.kind == 4) = false := by simpa using (show ¬ d.kind = 4 by omega)
  have q6 : (d.kind == 6) = false := by simpa using (show ¬ d.kind = 6 by omega)
  have q7 : (d.kind == 7) = false := by simpa using (show ¬ d.kind = 7 by omega)
  have q15 : (d.kind == 15) = false := by simpa using (show ¬ d.kind = 15 by omega)
  have q14 : (d.kind == 14) = false := by simpa using (show ¬ d.kind = 14 by omega)
  have HF := Lib.hid HF
  clear hAt hst hlen hk
  go_enter Tryd.func10, Tryd.ntmps10
  go_wp2_with fail
  refine (HF.out.step H0.out HA.out HL.out).mono ?_
  rintro e v1 ⟨rfl, hs1⟩
  have H1 := Lib.hid hs1
  clear hs1 c0 c1 c2 c3 c4 c5 c6 c7
  go_wp2_with fail
  go_end0
  exact ⟨rfl, H1.out⟩

set_option maxRecDepth 100000 in
set_option maxHeartbeats 2000000 in
theorem whole_1 (w0 : World) (d : ExD) (wt : Nat) (hk : d.kind = 1) (hT : Tab w0) (h0 : 0 ≤ d.n) (h1 : d.n ≤ 9223372036854775807) (hw : 40 ≤ wt) : FunAt 10 w0 d wt (Lib.itoa d.n) := by
  intro b b' o' acc w hAt hst hlen
  have H0 := Lib.hid hst
  have HA := Lib.hid hAt
  have HL := Lib.hid hlen
  have HE := Lib.hid (fun W (h : Below w0.heap.size w0 W) => hAt.lower h)
  obtain ⟨c0, c1, c2, c3, c4, c5, c6, c7⟩ := hAt.lower hst.all
  have q1 : (d.kind == 1) = true := by rw [hk]; rfl
  have HC := Lib.hid (Tryd.strconv_FormatInt_10 d.n (by omega) h1 w (tab_below hT hst.all))
  have HI := Lib.hid (itoa_le d.n h0 h1)
  have HLW := Lib.hid hw
  clear hAt hst hlen hk hT h0 h1 hw
  obtain ⟨I, hI⟩ : ∃ I, Lib.itoa d.n = I := ⟨_, rfl⟩
  rw [hI] at HC HI ⊢
  clear hI
  go_enter Tryd.func10, Tryd.ntmps10
  go_wp2_with fail
  refine HC.out.mono ?_
  rintro e v1 ⟨rfl, k, os, hw1⟩
  have H1 := Lib.hid (show St w0 b acc w v1 from H0.out.below (by rw [hw1]; exact below_growN k os))
  clear hw1 HC c0 c1 c2 c3 c4 c5 c6 c7
  go_wp2_with fail
  refine (H1.out.say [I] (by have h := HL.out; have h2 := HI.out; have h3 := HLW.out; simp only [List.flatten_cons, List.flatten_nil, List.append_nil]; omega) (by simp) 1 rfl _ rfl).mono ?_
  rintro e v2 ⟨rfl, hs2⟩
  have H2 := Lib.hid hs2
  clear hs2
  go_wp2_with fail
  go_end0
  exact ⟨rfl, by have h := H2.out; simpa using h⟩

set_option maxRecDepth 100000 in
set_option maxHeartbeats 2000000 in
theorem whole_2 (w0 : World) (d : ExD) (wt : Nat) (hk : d.kind = 2) (q : Str) (hq : quoteS d.s = some q) (hs : d.s.length ≤ 3000000) (hw : q.length ≤ wt) : FunAt 10 w0 d wt q := by
  intro b b' o' acc w hAt hst hlen
  have H0 := Lib.hid hst
  have HA := Lib.hid hAt
  have HL := Lib.hid hlen
  have HE := Lib.hid (fun W (h : Below w0.heap.size w0 W) => hAt.lower h)
  obtain ⟨c0, c1, c2, c3, c4, c5, c6, c7⟩ := hAt.lower hst.all
  have q1 : (d.kind == 1) = false := by rw [hk]; rfl
  have q2 : (d.kind == 2) = true := by rw [hk]; rfl
  have HC := Lib.hid (quote_all d.s w (by omega))
  have HQ := Lib.hid hq
  have HLW := Lib.hid hw
  clear hAt hst hlen hk hq hs hw
  go_enter Tryd.func10, Tryd.ntmps10
  go_wp2_with fail
  refine HC.out.mono ?_
  rintro e v1 hres
  unfold QuoteRes at hres
  rw [HQ.out] at hres
  obtain ⟨rfl, hb1⟩ := hres
  have H1 := Lib.hid (show St w0 b acc w v1 from H0.out.below hb1)
  clear hb1 HC c0 c1 c2 c3 c4 c5 c6 c7
  go_wp2_with fail
  refine (H1.out.say [q] (by have h := HL.out; have h3 := HLW.out; simp only [List.flatten_cons, List.flatten_nil, List.append_nil]; omega) (by simp) 1 rfl _ rfl).mono ?_
  rintro e v2 ⟨rfl, hs2⟩
  have H2 := Lib.hid hs2
  clear hs2
  go_wp2_with fail
  go_end0
  exact ⟨rfl, by have h := H2.out; simpa using h⟩

set_option maxRecDepth 100000 in
set_option maxHeartbeats 2000000 in
theorem whole_3 (w0 : World) (d : ExD) (wt : Nat) (hk : d.kind = 3) (hw : d.s.length ≤ wt) : FunAt 10 w0 d wt d.s := by
  intro b b' o' acc w hAt hst hlen
  have H0 := Lib.hid hst
  have HA := Lib.hid hAt
  have HL := Lib.hid hlen
  have HE := Lib.hid (fun W (h : Below w0.heap.size w0 W) => hAt.lower h)
  obtain ⟨c0, c1, c2, c3, c4, c5, c6, c7⟩ := hAt.lower hst.all
  have q1 : (d.kind == 1) = false := by rw [hk]; rfl
  have q2 : (d.kind == 2) = false := by rw [hk]; rfl
  have q3 : (d.kind == 3) = true := by rw [hk]; rfl
  have HLW := Lib.hid hw
  clear hAt hst hlen hk hw
  go_enter Tryd.func10, Tryd.ntmps10
  go_wp2_with fail
  refine (H0.out.say [d.s] (by have h := HL.out; have h3 := HLW.out; simp only [List.flatten_cons, List.flatten_nil, List.append_nil, List.length_cons, List.length_nil]; omega) (by simp) 1 rfl _ rfl).mono ?_
  rintro e v2 ⟨rfl, hs2⟩
  have H2 := Lib.hid hs2
  clear hs2 c0 c1 c2 c3 c4 c5 c6 c7
  go_wp2_with fail
  go_end0
  exact ⟨rfl, by have h := H2.out; simpa using h⟩

set_option maxRecDepth 100000 in
set_option maxHeartbeats 2000000 in
theorem whole_22 (w0 : World) (d : ExD) (wt : Nat) (hk : d.kind = 22) (hw : 4 ≤ wt) : FunAt 10 w0 d wt [114, 101, 97, 100] := by
  intro b b' o' acc w hAt hst hlen
  have H0 := Lib.hid hst
  have HA := Lib.hid hAt
  have HL := Lib.hid hlen
  have HE := Lib.hid (fun W (h : Below w0.heap.size w0 W) => hAt.lower h)
  obtain ⟨c0, c1, c2, c3, c4, c5, c6, c7⟩ := hAt.lower hst.all
  have q1 : (d.kind == 1) = false := by rw [hk]; rfl
  have q2 : (d.kind == 2) = false := by rw [hk]; rfl
  have q3 : (d.kind == 3) = false := by rw [hk]; rfl
  have q22 : (d.kind == 22) = true := by rw [hk]; rfl
  have HLW := Lib.hid hw
  clear hAt hst hlen hk hw
  go_enter Tryd.func10, Tryd.ntmps10
  go_wp2_with fail
  refine (H0.out.say [[114, 101, 97, 100]] (by have h := HL.out; have h3 := HLW.out; simp only [List.flatten_cons, List.flatten_nil, List.append_nil, List.length_cons, List.length_nil]; omega) (by simp) 1 rfl _ rfl).mono ?_
  rintro e v2 ⟨rfl, hs2⟩
  have H2 := Lib.hid hs2
  clear hs2 c0 c1 c2 c3 c4 c5 c6 c7
  go_wp2_with fail
  go_end0
  exact ⟨rfl, by have h := H2.out; simpa using h⟩

theorem whole_any (w0 : World) (hT : Tab w0) : ∀ (e : Ex), e.In w0 → e.fineE = true → e.Rg → e.Sm → WholeAt w0 e
  | .mk d l, hI, hf, hr, hm => by
    have hF := fields_of (fine_own hf)
    have WW : ∀ x ∈ l, WholeAt w0 x := fun x hx => whole_any w0 hT x (hI.sub x hx) (fine_sub hf x hx) (hr.sub x hx) (hm.sub x hx)
    have LL : ∀ x ∈ l, x.sh.length + 2 ≤ x.wt := fun x hx => sh_le w0 x (hI.sub x hx) (fine_sub hf x hx) (hr.sub x hx)
    have hlen : l.length = d.pn := hI.len
    have hs : d.s.length ≤ 3000000 := hm.s
    have ho := own_ge d
    have hwt : (Ex.mk d l).wt = d.own + wtL l := rfl
    show FunAt _ w0 d (Ex.mk d l).wt (Ex.mk d l).sh
    rw [sh_mk]
    have h30 : d.kind = 8 ∨ d.kind = 14 → d.ln ≤ 30 := by
      intro hk
      have h3 := hF.lists
      have hll : d.labels.length = d.ln := hI.labLen
      unfold ExD.listsB at h3
      rcases hk with hk | hk
      · rw [if_pos hk] at h3
        simp only [Bool.and_eq_true, decide_eq_true_eq] at h3
        have := labB_len h3.1
        omega
      · rw [if_neg (by omega), if_pos hk] at h3
        simp only [Bool.and_eq_true, decide_eq_true_eq] at h3
        have := labB_len h3.1.1.1
        omega
    rcases kinds_of hF with k | k | k | k | k | k | k
    · unfold ExD.shF; rw [if_pos k]
      exact whole_1 w0 d _ k hT (hF.n0 k) hr.n (by rw [hwt]; omega)
    · unfold ExD.shF; rw [if_neg (by omega), if_pos k]
      have h1 := hF.s
      unfold ExD.sB at h1
      rw [if_neg (by omega), if_neg (by omega), if_pos k] at h1
      obtain ⟨q, hq⟩ := Option.isSome_iff_exists.1 h1
      have h2 := quote_le d.s
      rw [hq] at h2 ⊢
      simp only [Option.getD_some] at h2 ⊢
      exact whole_2 w0 d _ k q hq hs (by rw [hwt]; omega)
    · unfold ExD.shF; rw [if_neg (by omega), if_neg (by omega), if_pos k]
      exact whole_3 w0 d _ k (by rw [hwt]; omega)
    · unfold ExD.shF; rw [if_neg (by omega), if_neg (by omega), if_neg (by omega), if_pos k]
      exact whole_22 w0 d _ k (by rw [hwt]; omega)
    · have hb := k
      unfold braceB at k
      have k := of_decide_eq_true k
      unfold ExD.shF
      rw [if_neg (by omega), if_neg (by omega), if_neg (by omega), if_neg (by omega), if_pos hb]
      unfold ExD.bracesF
      rcases k with k | k | k
      · rw [if_pos k]
        exact whole_8 w0 d _ k _ (braces_8 w0 d l hI k (parts_rec hF k).1 (h30 (.inl k)) WW LL)
      · obtain ⟨a, c, rfl, hp⟩ := parts_two hF hlen (by omega)
        rw [if_neg (by omega), if_pos k]
        exact whole_10 w0 d _ k _ (braces_10 w0 d a c hI k hp (LL a (by simp)) (WW a (by simp)) (LL c (by simp)) (WW c (by simp)))
      · obtain ⟨a, c, rfl, hp⟩ := parts_two hF hlen (by omega)
        rw [if_neg (by omega), if_neg (by omega)]
        exact whole_12 w0 d _ k _ (braces_12 w0 d a c hI k hp (LL a (by simp)) (WW a (by simp)) (LL c (by simp)) (WW c (by simp)))
    · have hb := k
      unfold blockB at k
      have k := of_decide_eq_true k
      have nb : ¬ braceB d.kind = true := by unfold braceB; rw [decide_eq_true_eq]; omega
      unfold ExD.shF
      rw [if_neg (by omega), if_neg (by omega), if_neg (by omega), if_neg (by omega), if_neg nb, if_pos hb]
      unfold ExD.blockF
      rcases k with k | k | k | k | k
      · obtain ⟨a, rfl, hp⟩ := parts_one hF hlen (by omega)
        rw [if_pos k]
        exact whole_4 w0 d _ k _ (block_4 w0 d a hI k hp (LL a (by simp)) (WW a (by simp)))
      · obtain ⟨a, c, rfl, hp⟩ := parts_two hF hlen (by omega)
        rw [if_neg (by omega), if_pos k]
        exact whole_6 w0 d _ k _ (block_6 w0 d a c hI k hp (LL a (by simp)) (WW a (by simp)) (LL c (by simp)) (WW c (by simp)))
      · obtain ⟨a, c, rfl, hp⟩ := parts_two hF hlen (by omega)
        rw [if_neg (by omega), if_neg (by omega), if_pos k]
        exact whole_7 w0 d _ k _ (block_7 w0 d a c hI k hp (LL a (by simp)) (WW a (by simp)) (LL c (by simp)) (WW c (by simp)))
      · obtain ⟨a, c, f, rfl, hp⟩ := parts_three hF hlen (by omega)
        rw [if_neg (by omega), if_neg (by omega), if_neg (by omega), if_pos k]
        exact whole_15 w0 d _ k _ (block_15 w0 d a c f hI k hp (LL a (by simp)) (WW a (by simp)) (LL c (by simp)) (WW c (by simp)) (LL f (by simp)) (WW f (by simp)))
      · rw [if_neg (by omega), if_neg (by omega), if_neg (by omega), if_neg (by omega)]
        obtain ⟨h4, h5, h6⟩ := parts_match hF k (by have := h30 (.inr k); omega)
        exact whole_14 w0 d _ k _ (block_14 w0 d _ _ k (match_any w0 d l hI h4 h5 (h30 (.inr k)) WW LL))
    · have nb : ¬ braceB d.kind = true := by unfold braceB; rw [decide_eq_true_eq]; omega
      have nk : ¬ blockB d.kind = true := by unfold blockB; rw [decide_eq_true_eq]; omega
      unfold ExD.shF
      rw [if_neg (by omega), if_neg (by omega), if_neg (by omega), if_neg (by omega), if_neg nb, if_neg nk]
      refine whole_0 w0 d _ (by omega) _ ?_
      rcases k with k | k | k | k | k | k | k | k | k | k
      · obtain ⟨a, rfl, hp⟩ := parts_one hF hlen (by omega)
        exact simple_9 w0 d a hI k hp (by omega) (LL a (by simp)) (WW a (by simp))
      · obtain ⟨a, rfl, hp⟩ := parts_one hF hlen (by omega)
        exact simple_11 w0 d a hI k hp (by omega) (LL a (by simp)) (WW a (by simp))
      · obtain ⟨a, rfl, hp⟩ := parts_one hF hlen (by omega)
        exact simple_0 w0 d a hI (by omega) hp (by omega) (LL a (by simp)) (WW a (by simp))
      · obtain ⟨a, rfl, hp⟩ := parts_one hF hlen (by omega)
        exact simple_0 w0 d a hI (by omega) hp (by omega) (LL a (by simp)) (WW a (by simp))
      · obtain ⟨a, rfl, hp⟩ := parts_one hF hlen (by omega)
        exact simple_0 w0 d a hI (by omega) hp (by omega) (LL a (by simp)) (WW a (by simp))
      · obtain ⟨a, rfl, hp⟩ := parts_one hF hlen (by omega)
        exact simple_0 w0 d a hI (by omega) hp (by omega) (LL a (by simp)) (WW a (by simp))
      · obtain ⟨a, rfl, hp⟩ := parts_one hF hlen (by omega)
        exact simple_0 w0 d a hI (by omega) hp (by omega) (LL a (by simp)) (WW a (by simp))
      · obtain ⟨a, c, rfl, hp⟩ := parts_two hF hlen (by omega)
        exact simple_5 w0 d a c hI k hp (by omega) (LL a (by simp)) (WW a (by simp)) (LL c (by simp)) (WW c (by simp))
      · obtain ⟨a, c, rfl, hp⟩ := parts_two hF hlen (by omega)
        exact simple_16 w0 d a c hI k hp (by omega) (LL a (by simp)) (WW a (by simp)) (LL c (by simp)) (WW c (by simp))
      · obtain ⟨a, c, rfl, hp⟩ := parts_two hF hlen (by omega)
        exact simple_19 w0 d a c hI k hp (by omega) (LL a (by simp)) (WW a (by simp)) (LL c (by simp)) (WW c (by simp))
end Go.Proofs.YtaglmmcjhlehjaaDoor

namespace Go.Proofs.YtaglmmcjhlehjaaDoor
open Go.ChangeShapes Go.WideShapes Go.ChangeAt Go.RowKit Go.Sort
set_option linter.unusedVariables false
set_option linter.unusedSimpArgs false

theorem digits_ne (u : Nat) : Lib.decDigits u ≠ [] := by
  unfold Lib.decDigits
  split <;> simp
theorem itoa_ne (n : Int) : Lib.itoa n ≠ [] := by
  unfold Lib.itoa
  split
  · simp
  · exact digits_ne _
theorem tokB_ne {s : Str} {k : Int} (h : tokB s k = true) : s ≠ [] := by
  rintro rfl
  rw [tokB_nil] at h
  cases h
theorem sh_ne (w : World) : ∀ (e : Ex), e.In w → e.fineE = true → e.sh ≠ []
  | .mk d l, hI, hf => by
    have hF := fields_of (fine_own hf)
    have ih : ∀ x ∈ l, x.sh ≠ [] := fun x hx => sh_ne w x (hI.sub x hx) (fine_sub hf x hx)
    have hlen : l.length = d.pn := hI.len
    have hpa : ∀ x ∈ l, x.pa ≠ [] := fun x hx => by
      have := ih x hx
      unfold Ex.pa brk
      split
      · exact this
      · simp
    rw [sh_mk]
    rcases kinds_of hF with k | k | k | k | k | k | k
    · unfold ExD.shF; rw [if_pos k]; exact itoa_ne _
    · unfold ExD.shF; rw [if_neg (by omega), if_pos k]
      have h1 := hF.s
      unfold ExD.sB at h1
      rw [if_neg (by omega), if_neg (by omega), if_pos k] at h1
      obtain ⟨q, hq⟩ := Option.isSome_iff_exists.1 h1
      rw [hq]
      unfold quoteS at hq
      split at hq
      · cases hq
      · cases hb : qbody d.s with
        | none => rw [hb] at hq; cases hq
        | some b => rw [hb] at hq; simp at hq; subst hq; simp
    · unfold ExD.shF; rw [if_neg (by omega), if_neg (by omega), if_pos k]
      have h1 := hF.s
      unfold ExD.sB at h1
      rw [if_pos (.inl k)] at h1
      exact tokB_ne h1
    · unfold ExD.shF; rw [if_neg (by omega), if_neg (by omega), if_neg (by omega), if_pos k]; simp
    · have hb := k
      unfold braceB at k
      have k := of_decide_eq_true k
      unfold ExD.shF
      rw [if_neg (by omega), if_neg (by omega), if_neg (by omega), if_neg (by omega), if_pos hb]
      simp
    · have hb := k
      unfold blockB at k
      have k := of_decide_eq_true k
      have nb : ¬ braceB d.kind = true := by unfold braceB; rw [decide_eq_true_eq]; omega
      unfold ExD.shF
      rw [if_neg (by omega), if_neg (by omega), if_neg (by omega), if_neg (by omega), if_neg nb, if_pos hb]
      unfold ExD.blockF ExD.matchF
      repeat' split
      all_goals simp
    · have nb : ¬ braceB d.kind = true := by unfold braceB; rw [decide_eq_true_eq]; omega
      have nk : ¬ blockB d.kind = true := by unfold blockB; rw [decide_eq_true_eq]; omega
      unfold ExD.shF
      rw [if_neg (by omega), if_neg (by omega), if_neg (by omega), if_neg (by omega), if_neg nb, if_neg nk]
      by_cases k2 : d.kind = 5 ∨ d.kind = 16 ∨ d.kind = 19
      · obtain ⟨a, c, rfl, _⟩ := parts_two hF hlen (by omega)
        have h1 := hpa a (by simp)
        have e0 : paAt [a, c] 0 = a.pa := rfl
        rw [e0]
        simp [h1]
      · obtain ⟨a, rfl, _⟩ := parts_one hF hlen (by omega)
        have h1 := hpa a (by simp)
        have e0 : paAt [a] 0 = a.pa := rfl
        rw [e0]
        simp [h1]

set_option maxRecDepth 100000 in
set_option maxHeartbeats 2000000 in
theorem string_any (B b : Nat) (l : Str) (w : World) (h : Wd B b l w) (h0 : l ≠ []) :
    Calls Tryd.prog 11 #[.pointer (some ⟨b, 0, none⟩)] w fun e w' => e = .returned (.string (bstr l)) ∧ Below B w w' := by
  obtain ⟨p, hB, v, hbk, hown, hne⟩ : ∃ p, Lib.BuilderAt WT U8 B b p (u8s l) w := by
    rcases h with h | h
    · exact ⟨_, h⟩
    · exact ⟨_, h⟩
  have hl0 : l.length ≠ 0 := by simpa using h0
  rw [u8s_length] at hown
  obtain ⟨g, cap, cur, rfl, hbg, hg, hnc, hcm, hcs, htake⟩ : ∃ g cap cur, v = .slice (some ⟨g, 0, none⟩) l.length cap ∧ B ≤ g ∧ w.heap[g]? = some (.cells cur U8 (0, 0)) ∧ l.length ≤ cap ∧ cap ≤ maxLen ∧ cur.size = cap * 1 ∧ cur.toList.take (l.length * 1) = u8s l := by
    rcases hown.2 with ⟨_, hz⟩ | ⟨g, cap, cur, hv, r⟩
    · exact absurd hz hl0
    · exact ⟨g, cap, cur, hv, r⟩
  have c1 : w.drew.cell? ⟨b, 1, none⟩ = some (.slice (some ⟨g, 0, none⟩) l.length cap) := by
    have : w.drew.heap[b]? = some (.cells #[p, .slice (some ⟨g, 0, none⟩) l.length cap] WT (0, 0)) := hbk
    rw [Lib.cell_of_heap this]; rfl
  have hSD : (Builtin.unsafeSliceData_ #[36] 51 #[.slice (some ⟨g, 0, none⟩) l.length cap]).run Tryd.prog w.drew = .ok (.pointer (some ⟨g, 0, none⟩)) w.drew :=
    Lib.run_unsafeSliceData_row _ _ _ _ _ _ (by omega)
  have hUS : (Builtin.unsafeString_ #[51, 3] 9 #[.pointer (some ⟨g, 0, none⟩), .int .i64 l.length]).run Tryd.prog w.drew = .ok (.string (bstr l)) (w.drew.freeze ⟨g, 0, none⟩ l.length) := by
    refine Lib.run_unsafeString_row w.drew 51 3 9 U8 Tryd.underlying51 (by kernel_rfl) g cur.size (by have hg' : w.drew.heap[g]? = some (.cells cur U8 (0, 0)) := hg; simp [World.shape?, hg']) l h0 (by omega) (by unfold maxLen at hcm; omega) ?_
    intro j x hx
    have hj : j < l.length := (List.getElem?_eq_some_iff.1 hx).1
    have := hown.cells (g := g) rfl j (.int .u8 x.toNat) (by rw [u8s_at l j hj]; rw [List.getElem?_eq_getElem hj] at hx; injection hx with hx; rw [hx])
    exact this
  have HBG := Lib.hid (show Below B w (w.drew.freeze ⟨g, 0, none⟩ l.length) from Lib.below_freeze (Below.drew (Below.refl B w)) (p := ⟨g, 0, none⟩) hbg _)
  clear h hB hbk hown hne hg hnc hcm hcs htake h0 hl0
  go_enter Tryd.func11, Tryd.ntmps11
  go_wp2_with fail
  go_region
  all_goals
    go_wp2_with fail
    go_returns
    exact ⟨rfl, HBG.out⟩

/-- What show.Text comes to. -/
def TextRes (e : Ex) (w : World) (r : Ending) (w' : World) : Prop :=
  ((mayE e 1 0).isSome = true → r = .returned (.tuple #[.string (bstr e.sh), .nilIface])) ∧ ((mayE e 1 0).isSome = false → r = .returned (.tuple #[.string ⟨#[]⟩, .iface 33 (.int .i64 1)])) ∧ Below w.heap.size w w'
set_option maxRecDepth 100000 in
set_option maxHeartbeats 2000000 in
theorem showText_any (e : Ex) (w : World) (hL : Lay w) (hT : Tab w) (hI : e.In w) (hr : e.Rg) (hm : e.Sm) (hw : e.wt ≤ 100000000) :
    Calls Tryd.prog 6 #[.agg e.d.arr] w fun r w' => TextRes e w r w' := by
  obtain ⟨d, hd⟩ : ∃ d, e.d = d := ⟨_, rfl⟩
  have hb1 : Below w.heap.size w (w.alloc (.cells d.arr 25)) := (Below.refl _ _).alloc (Nat.le_refl _) _
  have hE1 := ex_box w d
  have HIN := Lib.hid (hI.lower hb1)
  have HLT := Lib.hid (And.intro (hL.below hb1) (tab_below hT hb1))
  have HX := Lib.hid (And.intro hr (And.intro hm hw))
  have HD := Lib.hid hd
  have HB1 := Lib.hid hb1
  rw [hd]
  clear hL hT hI hr hm hw hd hb1
  go_enter Tryd.func6, Tryd.ntmps6
  go_wp2_with fail
  obtain ⟨bx, hbx⟩ : ∃ bx, w.heap.size = bx := ⟨_, rfl⟩
  rw [hbx] at hE1
  try rw [hbx]
  have HBX := Lib.hid hbx
  clear hbx
  generalize (w.alloc (.cells d.arr 25)) = w1 at *
  have HE := Lib.hid (fun W (h : Below w1.heap.size w1 W) => hE1.lower h)
  obtain ⟨c0, c1, c2, c3, c4, c5, c6, c7⟩ := hE1
  have HM := Lib.hid (may_any e w1 HLT.out.1 HIN.out)
  rw [HD.out] at HM
  go_wp2_with fail
  refine HM.out.mono ?_
  rintro r w2 ⟨rfl, hb2⟩
  have HB2 := Lib.hid hb2
  clear hb2 HM c0 c1 c2 c3 c4 c5 c6 c7
  cases hmay : (mayE e 1 0).isSome with
  | false =>
    have HN := Lib.hid hmay
    clear hmay
    go_wp2_with fail
    go_returns
    exact ⟨fun h => (by rw [HN.out] at h; cases h), fun _ => rfl, below_then HB1.out HB2.out⟩
  | true =>
    have HY := Lib.hid hmay
    have HF := Lib.hid (show e.fineE = true by
      rw [mayE_spec] at hmay
      split at hmay
      · rename_i h; exact h.1
      · cases hmay)
    clear hmay
    have HWH := Lib.hid (whole_any w2 (tab_below HLT.out.2 HB2.out) e (HIN.out.lower HB2.out) HF.out HX.out.1 HX.out.2.1)
    have HS0 := Lib.hid (show St w2 w2.heap.size [] (w2.alloc (.cells #[.pointer none, .slice none 0 0] WT)) (w2.alloc (.cells #[.pointer none, .slice none 0 0] WT)) from ⟨wd_new w2, (Below.refl _ _).alloc (Nat.le_refl _) _, Below.refl _ _, Keeps.refl _⟩)
    have HAT := Lib.hid (show e.d.At w2 bx 0 by rw [HD.out]; exact HE.out w2 HB2.out)
    go_wp2_with fail
    refine (HWH.out.step HS0.out HAT.out (by have := HX.out.2.2; simp only [List.length_nil, CAP]; omega)).mono ?_
    rintro r w3 ⟨rfl, hs3⟩
    have H3 := Lib.hid (show Wd w2.heap.size w2.heap.size e.sh w3 by have := hs3.1; simpa using this)
    have HB3 := Lib.hid (show Below w2.heap.size w2 w3 from hs3.all)
    clear hs3 HWH HS0 HAT
    have HNE := Lib.hid (sh_ne w1 e HIN.out HF.out)
    go_wp2_with fail
    refine (string_any w2.heap.size w2.heap.size e.sh w3 H3.out HNE.out).mono ?_
    rintro r w4 ⟨rfl, hb4⟩
    have HB4 := Lib.hid (below_then HB1.out (below_then HB2.out (HB3.out.trans hb4)))
    clear hb4
    go_wp2_with fail
    go_returns
    exact ⟨fun _ => rfl, fun h => (by rw [HY.out] at h; cases h), HB4.out⟩
end Go.Proofs.YtaglmmcjhlehjaaDoor
