/-
  Whether a core expression binds a name in a part, by the document's answer.
-/
import Derived.Test.YtpnihimoekkepaaCoBA
namespace Go.Proofs.Ytpnihimoekkepaa
open Go.ChangeShapes Go.WideShapes Go.ChangeAt Go.RowKit
set_option linter.unusedVariables false
set_option linter.unusedSimpArgs false

def BdR (r : Bool) (w : World) (e : Ending) (w' : World) : Prop := e = .returned (.bool r) ∧ Below w.heap.size w w'
theorem bdr_of {r r' : Bool} {w : World} {e : Ending} {w' : World} (h : r = r') (hb : e = .returned (.bool r') ∧ Below w.heap.size w w') : BdR r w e w' := by subst h; exact hb

set_option maxRecDepth 100000 in
set_option maxHeartbeats 1000000 in
theorem binds_4y (d : ExD) (l : List Ex) (x : Str) (i : Nat) (iv : Int) (hiv : iv = (i : Int)) (hi4 : i ≤ 4000000) (w : World) (hI : (Ex.mk d l).In w) (hk : d.kind = 4) (h0 : i = 0) (hg1 : x = d.s) (r : Bool) (hr : decide (x ∈ d.boundF i) = r) : Calls Try.prog 45 #[.agg #[.int .i64 d.kind, .int .i64 d.n, .string (bstr d.s), .string (bstr d.t), .slice d.nA d.nn d.nc, .slice d.pA d.pn d.pc], .int .i64 iv, .string (bstr x)] w (BdR r w) := by
  have he : d.boundF i = [d.s] := by unfold ExD.boundF; simp [hk, h0]
  rw [he] at hr
  obtain rfl : r = true := by rw [← hr]; simp [hg1]
  clear hr he
  have hr : true = true := rfl
  have hb1 : Below w.heap.size w (w.alloc (.cells #[.int .i64 d.kind, .int .i64 d.n, .string (bstr d.s), .string (bstr d.t), .slice d.nA d.nn d.nc, .slice d.pA d.pn d.pc] 25)) := (Below.refl _ _).alloc (Nat.le_refl _) _
  have HB1 := Lib.hid hb1
  obtain ⟨c0, c1, c2, c3, c4, c5⟩ := ex_box w d
  have hn4 : (d.nn : Int) ≤ 4000000 := by have : d.nn ≤ 4000000 := hI.cap.1.2.2; omega
  have q4 : (d.kind == 4) = true := by rw [hk]; rfl
  have q6 : (d.kind == 6) = false := by rw [hk]; rfl
  have q7 : (d.kind == 7) = false := by rw [hk]; rfl
  have q14 : (d.kind == 14) = false := by rw [hk]; rfl
  have i0 : (iv == 0) = true := by rw [beq_iff_eq]; omega
  have g1 : ((bstr x).toList == (bstr d.s).toList) = true := by rw [beq_bstr]; simpa using hg1
  clear hiv hk hI hr hb1
  go_enter Try.func45, Try.ntmps45
  go_wp2_with fail
  all_goals
    go_returns
    exact bdr_of rfl ⟨rfl, HB1.out⟩

set_option maxRecDepth 100000 in
set_option maxHeartbeats 1000000 in
theorem binds_4n (d : ExD) (l : List Ex) (x : Str) (i : Nat) (iv : Int) (hiv : iv = (i : Int)) (hi4 : i ≤ 4000000) (w : World) (hI : (Ex.mk d l).In w) (hk : d.kind = 4) (h0 : i = 0) (hg1 : ¬ x = d.s) (r : Bool) (hr : decide (x ∈ d.boundF i) = r) : Calls Try.prog 45 #[.agg #[.int .i64 d.kind, .int .i64 d.n, .string (bstr d.s), .string (bstr d.t), .slice d.nA d.nn d.nc, .slice d.pA d.pn d.pc], .int .i64 iv, .string (bstr x)] w (BdR r w) := by
  have he : d.boundF i = [d.s] := by unfold ExD.boundF; simp [hk, h0]
  rw [he] at hr
  obtain rfl : r = false := by rw [← hr]; simp [hg1]
  clear hr he
  have hr : false = false := rfl
  have hb1 : Below w.heap.size w (w.alloc (.cells #[.int .i64 d.kind, .int .i64 d.n, .string (bstr d.s), .string (bstr d.t), .slice d.nA d.nn d.nc, .slice d.pA d.pn d.pc] 25)) := (Below.refl _ _).alloc (Nat.le_refl _) _
  have HB1 := Lib.hid hb1
  obtain ⟨c0, c1, c2, c3, c4, c5⟩ := ex_box w d
  have hn4 : (d.nn : Int) ≤ 4000000 := by have : d.nn ≤ 4000000 := hI.cap.1.2.2; omega
  have q4 : (d.kind == 4) = true := by rw [hk]; rfl
  have q6 : (d.kind == 6) = false := by rw [hk]; rfl
  have q7 : (d.kind == 7) = false := by rw [hk]; rfl
  have q14 : (d.kind == 14) = false := by rw [hk]; rfl
  have i0 : (iv == 0) = true := by rw [beq_iff_eq]; omega
  have g1 : ((bstr x).toList == (bstr d.s).toList) = false := by rw [beq_bstr]; simpa using hg1
  clear hiv hk hI hr hb1
  go_enter Try.func45, Try.ntmps45
  go_wp2_with fail
  all_goals
    go_returns
    exact bdr_of rfl ⟨rfl, HB1.out⟩

set_option maxRecDepth 100000 in
set_option maxHeartbeats 1000000 in
theorem binds_4o (d : ExD) (l : List Ex) (x : Str) (i : Nat) (iv : Int) (hiv : iv = (i : Int)) (hi4 : i ≤ 4000000) (w : World) (hI : (Ex.mk d l).In w) (hk : d.kind = 4) (h0 : ¬ i = 0) (r : Bool) (hr : decide (x ∈ d.boundF i) = r) : Calls Try.prog 45 #[.agg #[.int .i64 d.kind, .int .i64 d.n, .string (bstr d.s), .string (bstr d.t), .slice d.nA d.nn d.nc, .slice d.pA d.pn d.pc], .int .i64 iv, .string (bstr x)] w (BdR r w) := by
  have he : d.boundF i = [] := by unfold ExD.boundF; simp [hk, h0]
  rw [he] at hr
  obtain rfl : r = false := by rw [← hr]; simp []
  clear hr he
  have hr : false = false := rfl
  have hb1 : Below w.heap.size w (w.alloc (.cells #[.int .i64 d.kind, .int .i64 d.n, .string (bstr d.s), .string (bstr d.t), .slice d.nA d.nn d.nc, .slice d.pA d.pn d.pc] 25)) := (Below.refl _ _).alloc (Nat.le_refl _) _
  have HB1 := Lib.hid hb1
  obtain ⟨c0, c1, c2, c3, c4, c5⟩ := ex_box w d
  have hn4 : (d.nn : Int) ≤ 4000000 := by have : d.nn ≤ 4000000 := hI.cap.1.2.2; omega
  have q4 : (d.kind == 4) = true := by rw [hk]; rfl
  have q6 : (d.kind == 6) = false := by rw [hk]; rfl
  have q7 : (d.kind == 7) = false := by rw [hk]; rfl
  have q14 : (d.kind == 14) = false := by rw [hk]; rfl
  have i0 : (iv == 0) = false := by rw [beq_eq_false_iff_ne]; omega
  clear hiv hk hI hr hb1
  go_enter Try.func45, Try.ntmps45
  go_wp2_with fail
  all_goals
    go_returns
    exact bdr_of rfl ⟨rfl, HB1.out⟩

set_option maxRecDepth 100000 in
set_option maxHeartbeats 1000000 in
theorem binds_6y (d : ExD) (l : List Ex) (x : Str) (i : Nat) (iv : Int) (hiv : iv = (i : Int)) (hi4 : i ≤ 4000000) (w : World) (hI : (Ex.mk d l).In w) (hk : d.kind = 6) (h0 : i = 1) (hg1 : x = d.s) (r : Bool) (hr : decide (x ∈ d.boundF i) = r) : Calls Try.prog 45 #[.agg #[.int .i64 d.kind, .int .i64 d.n, .string (bstr d.s), .string (bstr d.t), .slice d.nA d.nn d.nc, .slice d.pA d.pn d.pc], .int .i64 iv, .string (bstr x)] w (BdR r w) := by
  have he : d.boundF i = [d.s] := by unfold ExD.boundF; simp [hk, h0]
  rw [he] at hr
  obtain rfl : r = true := by rw [← hr]; simp [hg1]
  clear hr he
  have hr : true = true := rfl
  have hb1 : Below w.heap.size w (w.alloc (.cells #[.int .i64 d.kind, .int .i64 d.n, .string (bstr d.s), .string (bstr d.t), .slice d.nA d.nn d.nc, .slice d.pA d.pn d.pc] 25)) := (Below.refl _ _).alloc (Nat.le_refl _) _
  have HB1 := Lib.hid hb1
  obtain ⟨c0, c1, c2, c3, c4, c5⟩ := ex_box w d
  have hn4 : (d.nn : Int) ≤ 4000000 := by have : d.nn ≤ 4000000 := hI.cap.1.2.2; omega
  have q4 : (d.kind == 4) = false := by rw [hk]; rfl
  have q6 : (d.kind == 6) = true := by rw [hk]; rfl
  have q7 : (d.kind == 7) = false := by rw [hk]; rfl
  have q14 : (d.kind == 14) = false := by rw [hk]; rfl
  have i0 : (iv == 1) = true := by rw [beq_iff_eq]; omega
  have g1 : ((bstr x).toList == (bstr d.s).toList) = true := by rw [beq_bstr]; simpa using hg1
  clear hiv hk hI hr hb1
  go_enter Try.func45, Try.ntmps45
  go_wp2_with fail
  all_goals
    go_returns
    exact bdr_of rfl ⟨rfl, HB1.out⟩

set_option maxRecDepth 100000 in
set_option maxHeartbeats 1000000 in
theorem binds_6n (d : ExD) (l : List Ex) (x : Str) (i : Nat) (iv : Int) (hiv : iv = (i : Int)) (hi4 : i ≤ 4000000) (w : World) (hI : (Ex.mk d l).In w) (hk : d.kind = 6) (h0 : i = 1) (hg1 : ¬ x = d.s) (r : Bool) (hr : decide (x ∈ d.boundF i) = r) : Calls Try.prog 45 #[.agg #[.int .i64 d.kind, .int .i64 d.n, .string (bstr d.s), .string (bstr d.t), .slice d.nA d.nn d.nc, .slice d.pA d.pn d.pc], .int .i64 iv, .string (bstr x)] w (BdR r w) := by
  have he : d.boundF i = [d.s] := by unfold ExD.boundF; simp [hk, h0]
  rw [he] at hr
  obtain rfl : r = false := by rw [← hr]; simp [hg1]
  clear hr he
  have hr : false = false := rfl
  have hb1 : Below w.heap.size w (w.alloc (.cells #[.int .i64 d.kind, .int .i64 d.n, .string (bstr d.s), .string (bstr d.t), .slice d.nA d.nn d.nc, .slice d.pA d.pn d.pc] 25)) := (Below.refl _ _).alloc (Nat.le_refl _) _
  have HB1 := Lib.hid hb1
  obtain ⟨c0, c1, c2, c3, c4, c5⟩ := ex_box w d
  have hn4 : (d.nn : Int) ≤ 4000000 := by have : d.nn ≤ 4000000 := hI.cap.1.2.2; omega
  have q4 : (d.kind == 4) = false := by rw [hk]; rfl
  have q6 : (d.kind == 6) = true := by rw [hk]; rfl
  have q7 : (d.kind == 7) = false := by rw [hk]; rfl
  have q14 : (d.kind == 14) = false := by rw [hk]; rfl
  have i0 : (iv == 1) = true := by rw [beq_iff_eq]; omega
  have g1 : ((bstr x).toList == (bstr d.s).toList) = false := by rw [beq_bstr]; simpa using hg1
  clear hiv hk hI hr hb1
  go_enter Try.func45, Try.ntmps45
  go_wp2_with fail
  all_goals
    go_returns
    exact bdr_of rfl ⟨rfl, HB1.out⟩

set_option maxRecDepth 100000 in
set_option maxHeartbeats 1000000 in
theorem binds_6o (d : ExD) (l : List Ex) (x : Str) (i : Nat) (iv : Int) (hiv : iv = (i : Int)) (hi4 : i ≤ 4000000) (w : World) (hI : (Ex.mk d l).In w) (hk : d.kind = 6) (h0 : ¬ i = 1) (r : Bool) (hr : decide (x ∈ d.boundF i) = r) : Calls Try.prog 45 #[.agg #[.int .i64 d.kind, .int .i64 d.n, .string (bstr d.s), .string (bstr d.t), .slice d.nA d.nn d.nc, .slice d.pA d.pn d.pc], .int .i64 iv, .string (bstr x)] w (BdR r w) := by
  have he : d.boundF i = [] := by unfold ExD.boundF; simp [hk, h0]
  rw [he] at hr
  obtain rfl : r = false := by rw [← hr]; simp []
  clear hr he
  have hr : false = false := rfl
  have hb1 : Below w.heap.size w (w.alloc (.cells #[.int .i64 d.kind, .int .i64 d.n, .string (bstr d.s), .string (bstr d.t), .slice d.nA d.nn d.nc, .slice d.pA d.pn d.pc] 25)) := (Below.refl _ _).alloc (Nat.le_refl _) _
  have HB1 := Lib.hid hb1
  obtain ⟨c0, c1, c2, c3, c4, c5⟩ := ex_box w d
  have hn4 : (d.nn : Int) ≤ 4000000 := by have : d.nn ≤ 4000000 := hI.cap.1.2.2; omega
  have q4 : (d.kind == 4) = false := by rw [hk]; rfl
  have q6 : (d.kind == 6) = true := by rw [hk]; rfl
  have q7 : (d.kind == 7) = false := by rw [hk]; rfl
  have q14 : (d.kind == 14) = false := by rw [hk]; rfl
  have i0 : (iv == 1) = false := by rw [beq_eq_false_iff_ne]; omega
  clear hiv hk hI hr hb1
  go_enter Try.func45, Try.ntmps45
  go_wp2_with fail
  all_goals
    go_returns
    exact bdr_of rfl ⟨rfl, HB1.out⟩

set_option maxRecDepth 100000 in
set_option maxHeartbeats 1000000 in
theorem binds_71y (d : ExD) (l : List Ex) (x : Str) (i : Nat) (iv : Int) (hiv : iv = (i : Int)) (hi4 : i ≤ 4000000) (w : World) (hI : (Ex.mk d l).In w) (hk : d.kind = 7) (h0 : i = 1) (hg1 : x = d.s) (r : Bool) (hr : decide (x ∈ d.boundF i) = r) : Calls Try.prog 45 #[.agg #[.int .i64 d.kind, .int .i64 d.n, .string (bstr d.s), .string (bstr d.t), .slice d.nA d.nn d.nc, .slice d.pA d.pn d.pc], .int .i64 iv, .string (bstr x)] w (BdR r w) := by
  have he : d.boundF i = [d.s] := by unfold ExD.boundF; simp [hk, h0]
  rw [he] at hr
  obtain rfl : r = true := by rw [← hr]; simp [hg1]
  clear hr he
  have hr : true = true := rfl
  have hb1 : Below w.heap.size w (w.alloc (.cells #[.int .i64 d.kind, .int .i64 d.n, .string (bstr d.s), .string (bstr d.t), .slice d.nA d.nn d.nc, .slice d.pA d.pn d.pc] 25)) := (Below.refl _ _).alloc (Nat.le_refl _) _
  have HB1 := Lib.hid hb1
  obtain ⟨c0, c1, c2, c3, c4, c5⟩ := ex_box w d
  have hn4 : (d.nn : Int) ≤ 4000000 := by have : d.nn ≤ 4000000 := hI.cap.1.2.2; omega
  have q4 : (d.kind == 4) = false := by rw [hk]; rfl
  have q6 : (d.kind == 6) = false := by rw [hk]; rfl
  have q7 : (d.kind == 7) = true := by rw [hk]; rfl
  have q14 : (d.kind == 14) = false := by rw [hk]; rfl
  have i1 : iv < 2 := by omega
  have i0 : (iv == 0) = false := by rw [beq_eq_false_iff_ne]; omega
  have g1 : ((bstr x).toList == (bstr d.s).toList) = true := by rw [beq_bstr]; simpa using hg1
  clear hiv hk hI hr hb1
  go_enter Try.func45, Try.ntmps45
  go_wp2_with fail
  all_goals
    go_returns
    exact bdr_of rfl ⟨rfl, HB1.out⟩

set_option maxRecDepth 100000 in
set_option maxHeartbeats 1000000 in
theorem binds_71n (d : ExD) (l : List Ex) (x : Str) (i : Nat) (iv : Int) (hiv : iv = (i : Int)) (hi4 : i ≤ 4000000) (w : World) (hI : (Ex.mk d l).In w) (hk : d.kind = 7) (h0 : i = 1) (hg1 : ¬ x = d.s) (r : Bool) (hr : decide (x ∈ d.boundF i) = r) : Calls Try.prog 45 #[.agg #[.int .i64 d.kind, .int .i64 d.n, .string (bstr d.s), .string (bstr d.t), .slice d.nA d.nn d.nc, .slice d.pA d.pn d.pc], .int .i64 iv, .string (bstr x)] w (BdR r w) := by
  have he : d.boundF i = [d.s] := by unfold ExD.boundF; simp [hk, h0]
  rw [he] at hr
  obtain rfl : r = false := by rw [← hr]; simp [hg1]
  clear hr he
  have hr : false = false := rfl
  have hb1 : Below w.heap.size w (w.alloc (.cells #[.int .i64 d.kind, .int .i64 d.n, .string (bstr d.s), .string (bstr d.t), .slice d.nA d.nn d.nc, .slice d.pA d.pn d.pc] 25)) := (Below.refl _ _).alloc (Nat.le_refl _) _
  have HB1 := Lib.hid hb1
  obtain ⟨c0, c1, c2, c3, c4, c5⟩ := ex_box w d
  have hn4 : (d.nn : Int) ≤ 4000000 := by have : d.nn ≤ 4000000 := hI.cap.1.2.2; omega
  have q4 : (d.kind == 4) = false := by rw [hk]; rfl
  have q6 : (d.kind == 6) = false := by rw [hk]; rfl
  have q7 : (d.kind == 7) = true := by rw [hk]; rfl
  have q14 : (d.kind == 14) = false := by rw [hk]; rfl
  have i1 : iv < 2 := by omega
  have i0 : (iv == 0) = false := by rw [beq_eq_false_iff_ne]; omega
  have g1 : ((bstr x).toList == (bstr d.s).toList) = false := by rw [beq_bstr]; simpa using hg1
  clear hiv hk hI hr hb1
  go_enter Try.func45, Try.ntmps45
  go_wp2_with fail
  all_goals
    go_returns
    exact bdr_of rfl ⟨rfl, HB1.out⟩

set_option maxRecDepth 100000 in
set_option maxHeartbeats 1000000 in
theorem binds_70y (d : ExD) (l : List Ex) (x : Str) (i : Nat) (iv : Int) (hiv : iv = (i : Int)) (hi4 : i ≤ 4000000) (w : World) (hI : (Ex.mk d l).In w) (hk : d.kind = 7) (h0 : i = 0) (hg1 : x = d.s) (r : Bool) (hr : decide (x ∈ d.boundF i) = r) : Calls Try.prog 45 #[.agg #[.int .i64 d.kind, .int .i64 d.n, .string (bstr d.s), .string (bstr d.t), .slice d.nA d.nn d.nc, .slice d.pA d.pn d.pc], .int .i64 iv, .string (bstr x)] w (BdR r w) := by
  have he : d.boundF i = [d.s, d.t] := by unfold ExD.boundF; simp [hk, h0]
  rw [he] at hr
  obtain rfl : r = true := by rw [← hr]; simp [hg1]
  clear hr he
  have hr : true = true := rfl
  have hb1 : Below w.heap.size w (w.alloc (.cells #[.int .i64 d.kind, .int .i64 d.n, .string (bstr d.s), .string (bstr d.t), .slice d.nA d.nn d.nc, .slice d.pA d.pn d.pc] 25)) := (Below.refl _ _).alloc (Nat.le_refl _) _
  have HB1 := Lib.hid hb1
  obtain ⟨c0, c1, c2, c3, c4, c5⟩ := ex_box w d
  have hn4 : (d.nn : Int) ≤ 4000000 := by have : d.nn ≤ 4000000 := hI.cap.1.2.2; omega
  have q4 : (d.kind == 4) = false := by rw [hk]; rfl
  have q6 : (d.kind == 6) = false := by rw [hk]; rfl
  have q7 : (d.kind == 7) = true := by rw [hk]; rfl
  have q14 : (d.kind == 14) = false := by rw [hk]; rfl
  have i1 : iv < 2 := by omega
  have i0 : (iv == 0) = true := by rw [beq_iff_eq]; omega
  have g1 : ((bstr x).toList == (bstr d.s).toList) = true := by rw [beq_bstr]; simpa using hg1
  clear hiv hk hI hr hb1
  go_enter Try.func45, Try.ntmps45
  go_wp2_with fail
  all_goals
    go_returns
    exact bdr_of rfl ⟨rfl, HB1.out⟩

set_option maxRecDepth 100000 in
set_option maxHeartbeats 1000000 in
theorem binds_70ny (d : ExD) (l : List Ex) (x : Str) (i : Nat) (iv : Int) (hiv : iv = (i : Int)) (hi4 : i ≤ 4000000) (w : World) (hI : (Ex.mk d l).In w) (hk : d.kind = 7) (h0 : i = 0) (hg1 : ¬ x = d.s) (hg2 : x = d.t) (r : Bool) (hr : decide (x ∈ d.boundF i) = r) : Calls Try.prog 45 #[.agg #[.int .i64 d.kind, .int .i64 d.n, .string (bstr d.s), .string (bstr d.t), .slice d.nA d.nn d.nc, .slice d.pA d.pn d.pc], .int .i64 iv, .string (bstr x)] w (BdR r w) := by
  have he : d.boundF i = [d.s, d.t] := by unfold ExD.boundF; simp [hk, h0]
  rw [he] at hr
  obtain rfl : r = true := by rw [← hr]; simp [hg1, hg2]
  clear hr he
  have hr : true = true := rfl
  have hb1 : Below w.heap.size w (w.alloc (.cells #[.int .i64 d.kind, .int .i64 d.n, .string (bstr d.s), .string (bstr d.t), .slice d.nA d.nn d.nc, .slice d.pA d.pn d.pc] 25)) := (Below.refl _ _).alloc (Nat.le_refl _) _
  have HB1 := Lib.hid hb1
  obtain ⟨c0, c1, c2, c3, c4, c5⟩ := ex_box w d
  have hn4 : (d.nn : Int) ≤ 4000000 := by have : d.nn ≤ 4000000 := hI.cap.1.2.2; omega
  have q4 : (d.kind == 4) = false := by rw [hk]; rfl
  have q6 : (d.kind == 6) = false := by rw [hk]; rfl
  have q7 : (d.kind == 7) = true := by rw [hk]; rfl
  have q14 : (d.kind == 14) = false := by rw [hk]; rfl
  have i1 : iv < 2 := by omega
  have i0 : (iv == 0) = true := by rw [beq_iff_eq]; omega
  have g1 : ((bstr x).toList == (bstr d.s).toList) = false := by rw [beq_bstr]; simpa using hg1
  have g2 : ((bstr x).toList == (bstr d.t).toList) = true := by rw [beq_bstr]; simpa using hg2
  clear hiv hk hI hr hb1
  go_enter Try.func45, Try.ntmps45
  go_wp2_with fail
  all_goals
    go_returns
    exact bdr_of rfl ⟨rfl, HB1.out⟩

set_option maxRecDepth 100000 in
set_option maxHeartbeats 1000000 in
theorem binds_70nn (d : ExD) (l : List Ex) (x : Str) (i : Nat) (iv : Int) (hiv : iv = (i : Int)) (hi4 : i ≤ 4000000) (w : World) (hI : (Ex.mk d l).In w) (hk : d.kind = 7) (h0 : i = 0) (hg1 : ¬ x = d.s) (hg2 : ¬ x = d.t) (r : Bool) (hr : decide (x ∈ d.boundF i) = r) : Calls Try.prog 45 #[.agg #[.int .i64 d.kind, .int .i64 d.n, .string (bstr d.s), .string (bstr d.t), .slice d.nA d.nn d.nc, .slice d.pA d.pn d.pc], .int .i64 iv, .string (bstr x)] w (BdR r w) := by
  have he : d.boundF i = [d.s, d.t] := by unfold ExD.boundF; simp [hk, h0]
  rw [he] at hr
  obtain rfl : r = false := by rw [← hr]; simp [hg1, hg2]
  clear hr he
  have hr : false = false := rfl
  have hb1 : Below w.heap.size w (w.alloc (.cells #[.int .i64 d.kind, .int .i64 d.n, .string (bstr d.s), .string (bstr d.t), .slice d.nA d.nn d.nc, .slice d.pA d.pn d.pc] 25)) := (Below.refl _ _).alloc (Nat.le_refl _) _
  have HB1 := Lib.hid hb1
  obtain ⟨c0, c1, c2, c3, c4, c5⟩ := ex_box w d
  have hn4 : (d.nn : Int) ≤ 4000000 := by have : d.nn ≤ 4000000 := hI.cap.1.2.2; omega
  have q4 : (d.kind == 4) = false := by rw [hk]; rfl
  have q6 : (d.kind == 6) = false := by rw [hk]; rfl
  have q7 : (d.kind == 7) = true := by rw [hk]; rfl
  have q14 : (d.kind == 14) = false := by rw [hk]; rfl
  have i1 : iv < 2 := by omega
  have i0 : (iv == 0) = true := by rw [beq_iff_eq]; omega
  have g1 : ((bstr x).toList == (bstr d.s).toList) = false := by rw [beq_bstr]; simpa using hg1
  have g2 : ((bstr x).toList == (bstr d.t).toList) = false := by rw [beq_bstr]; simpa using hg2
  clear hiv hk hI hr hb1
  go_enter Try.func45, Try.ntmps45
  go_wp2_with fail
  all_goals
    go_returns
    exact bdr_of rfl ⟨rfl, HB1.out⟩

set_option maxRecDepth 100000 in
set_option maxHeartbeats 1000000 in
theorem binds_7o (d : ExD) (l : List Ex) (x : Str) (i : Nat) (iv : Int) (hiv : iv = (i : Int)) (hi4 : i ≤ 4000000) (w : World) (hI : (Ex.mk d l).In w) (hk : d.kind = 7) (h0 : 1 < i) (r : Bool) (hr : decide (x ∈ d.boundF i) = r) : Calls Try.prog 45 #[.agg #[.int .i64 d.kind, .int .i64 d.n, .string (bstr d.s), .string (bstr d.t), .slice d.nA d.nn d.nc, .slice d.pA d.pn d.pc], .int .i64 iv, .string (bstr x)] w (BdR r w) := by
  have he : d.boundF i = [] := by unfold ExD.boundF; rw [if_neg (by omega), if_neg (by omega), if_neg (by omega), if_neg (by omega)]
  rw [he] at hr
  obtain rfl : r = false := by rw [← hr]; simp []
  clear hr he
  have hr : false = false := rfl
  have hb1 : Below w.heap.size w (w.alloc (.cells #[.int .i64 d.kind, .int .i64 d.n, .string (bstr d.s), .string (bstr d.t), .slice d.nA d.nn d.nc, .slice d.pA d.pn d.pc] 25)) := (Below.refl _ _).alloc (Nat.le_refl _) _
  have HB1 := Lib.hid hb1
  obtain ⟨c0, c1, c2, c3, c4, c5⟩ := ex_box w d
  have hn4 : (d.nn : Int) ≤ 4000000 := by have : d.nn ≤ 4000000 := hI.cap.1.2.2; omega
  have q4 : (d.kind == 4) = false := by rw [hk]; rfl
  have q6 : (d.kind == 6) = false := by rw [hk]; rfl
  have q7 : (d.kind == 7) = true := by rw [hk]; rfl
  have q14 : (d.kind == 14) = false := by rw [hk]; rfl
  have i1 : ¬ iv < 2 := by omega
  have i0 : (iv == 0) = false := by rw [beq_eq_false_iff_ne]; omega
  clear hiv hk hI hr hb1
  go_enter Try.func45, Try.ntmps45
  go_wp2_with fail
  all_goals
    go_returns
    exact bdr_of rfl ⟨rfl, HB1.out⟩

set_option maxRecDepth 100000 in
set_option maxHeartbeats 1000000 in
theorem binds_14z (d : ExD) (l : List Ex) (x : Str) (i : Nat) (iv : Int) (hiv : iv = (i : Int)) (hi4 : i ≤ 4000000) (w : World) (hI : (Ex.mk d l).In w) (hk : d.kind = 14) (h0 : i = 0) (r : Bool) (hr : decide (x ∈ d.boundF i) = r) : Calls Try.prog 45 #[.agg #[.int .i64 d.kind, .int .i64 d.n, .string (bstr d.s), .string (bstr d.t), .slice d.nA d.nn d.nc, .slice d.pA d.pn d.pc], .int .i64 iv, .string (bstr x)] w (BdR r w) := by
  have he : d.boundF i = [] := by unfold ExD.boundF; simp [hk, h0]
  rw [he] at hr
  obtain rfl : r = false := by rw [← hr]; simp []
  clear hr he
  have hr : false = false := rfl
  have hb1 : Below w.heap.size w (w.alloc (.cells #[.int .i64 d.kind, .int .i64 d.n, .string (bstr d.s), .string (bstr d.t), .slice d.nA d.nn d.nc, .slice d.pA d.pn d.pc] 25)) := (Below.refl _ _).alloc (Nat.le_refl _) _
  have HB1 := Lib.hid hb1
  obtain ⟨c0, c1, c2, c3, c4, c5⟩ := ex_box w d
  have hn4 : (d.nn : Int) ≤ 4000000 := by have : d.nn ≤ 4000000 := hI.cap.1.2.2; omega
  have q4 : (d.kind == 4) = false := by rw [hk]; rfl
  have q6 : (d.kind == 6) = false := by rw [hk]; rfl
  have q7 : (d.kind == 7) = false := by rw [hk]; rfl
  have q14 : (d.kind == 14) = true := by rw [hk]; rfl
  have i0 : (iv == 0) = true := by rw [beq_iff_eq]; omega
  clear hiv hk hI hr hb1
  go_enter Try.func45, Try.ntmps45
  go_wp2_with fail
  all_goals
    go_returns
    exact bdr_of rfl ⟨rfl, HB1.out⟩

set_option maxRecDepth 100000 in
set_option maxHeartbeats 1000000 in
theorem binds_14ty (d : ExD) (l : List Ex) (x : Str) (i : Nat) (iv : Int) (hiv : iv = (i : Int)) (hi4 : i ≤ 4000000) (w : World) (hI : (Ex.mk d l).In w) (hk : d.kind = 14) (h0 : 2 * d.nn < i) (hg1 : x = d.t) (r : Bool) (hr : decide (x ∈ d.boundF i) = r) : Calls Try.prog 45 #[.agg #[.int .i64 d.kind, .int .i64 d.n, .string (bstr d.s), .string (bstr d.t), .slice d.nA d.nn d.nc, .slice d.pA d.pn d.pc], .int .i64 iv, .string (bstr x)] w (BdR r w) := by
  have he : d.boundF i = [d.t] := by unfold ExD.boundF; rw [if_neg (by omega), if_neg (by omega), if_pos ⟨hk, h0⟩]
  rw [he] at hr
  obtain rfl : r = true := by rw [← hr]; simp [hg1]
  clear hr he
  have hr : true = true := rfl
  have hb1 : Below w.heap.size w (w.alloc (.cells #[.int .i64 d.kind, .int .i64 d.n, .string (bstr d.s), .string (bstr d.t), .slice d.nA d.nn d.nc, .slice d.pA d.pn d.pc] 25)) := (Below.refl _ _).alloc (Nat.le_refl _) _
  have HB1 := Lib.hid hb1
  obtain ⟨c0, c1, c2, c3, c4, c5⟩ := ex_box w d
  have hn4 : (d.nn : Int) ≤ 4000000 := by have : d.nn ≤ 4000000 := hI.cap.1.2.2; omega
  have q4 : (d.kind == 4) = false := by rw [hk]; rfl
  have q6 : (d.kind == 6) = false := by rw [hk]; rfl
  have q7 : (d.kind == 7) = false := by rw [hk]; rfl
  have q14 : (d.kind == 14) = true := by rw [hk]; rfl
  have i0 : (iv == 0) = false := by rw [beq_eq_false_iff_ne]; omega
  have i4 : iv ≤ 4000000 := by omega
  have i3 : 0 ≤ iv := by omega
  obtain ⟨j, hj⟩ : ∃ j, (i - 1) / 2 = j := ⟨_, rfl⟩
  have f0 : (iv - 1) / 2 = (j : Int) := by omega
  have f1 : ¬ (j : Int) < (d.nn : Int) := by omega
  have f2 : 0 ≤ iv - 1 := by omega
  clear hj h0
  have g1 : ((bstr x).toList == (bstr d.t).toList) = true := by rw [beq_bstr]; simpa using hg1
  clear hiv hk hI hr hb1
  go_enter Try.func45, Try.ntmps45
  go_wp2_with fail
  all_goals
    go_returns
    exact bdr_of rfl ⟨rfl, HB1.out⟩

set_option maxRecDepth 100000 in
set_option maxHeartbeats 1000000 in
theorem binds_14tn (d : ExD) (l : List Ex) (x : Str) (i : Nat) (iv : Int) (hiv : iv = (i : Int)) (hi4 : i ≤ 4000000) (w : World) (hI : (Ex.mk d l).In w) (hk : d.kind = 14) (h0 : 2 * d.nn < i) (hg1 : ¬ x = d.t) (r : Bool) (hr : decide (x ∈ d.boundF i) = r) : Calls Try.prog 45 #[.agg #[.int .i64 d.kind, .int .i64 d.n, .string (bstr d.s), .string (bstr d.t), .slice d.nA d.nn d.nc, .slice d.pA d.pn d.pc], .int .i64 iv, .string (bstr x)] w (BdR r w) := by
  have he : d.boundF i = [d.t] := by unfold ExD.boundF; rw [if_neg (by omega), if_neg (by omega), if_pos ⟨hk, h0⟩]
  rw [he] at hr
  obtain rfl : r = false := by rw [← hr]; simp [hg1]
  clear hr he
  have hr : false = false := rfl
  have hb1 : Below w.heap.size w (w.alloc (.cells #[.int .i64 d.kind, .int .i64 d.n, .string (bstr d.s), .string (bstr d.t), .slice d.nA d.nn d.nc, .slice d.pA d.pn d.pc] 25)) := (Below.refl _ _).alloc (Nat.le_refl _) _
  have HB1 := Lib.hid hb1
  obtain ⟨c0, c1, c2, c3, c4, c5⟩ := ex_box w d
  have hn4 : (d.nn : Int) ≤ 4000000 := by have : d.nn ≤ 4000000 := hI.cap.1.2.2; omega
  have q4 : (d.kind == 4) = false := by rw [hk]; rfl
  have q6 : (d.kind == 6) = false := by rw [hk]; rfl
  have q7 : (d.kind == 7) = false := by rw [hk]; rfl
  have q14 : (d.kind == 14) = true := by rw [hk]; rfl
  have i0 : (iv == 0) = false := by rw [beq_eq_false_iff_ne]; omega
  have i4 : iv ≤ 4000000 := by omega
  have i3 : 0 ≤ iv := by omega
  obtain ⟨j, hj⟩ : ∃ j, (i - 1) / 2 = j := ⟨_, rfl⟩
  have f0 : (iv - 1) / 2 = (j : Int) := by omega
  have f1 : ¬ (j : Int) < (d.nn : Int) := by omega
  have f2 : 0 ≤ iv - 1 := by omega
  clear hj h0
  have g1 : ((bstr x).toList == (bstr d.t).toList) = false := by rw [beq_bstr]; simpa using hg1
  clear hiv hk hI hr hb1
  go_enter Try.func45, Try.ntmps45
  go_wp2_with fail
  all_goals
    go_returns
    exact bdr_of rfl ⟨rfl, HB1.out⟩

set_option maxRecDepth 100000 in
set_option maxHeartbeats 1000000 in
theorem binds_14n (d : ExD) (l : List Ex) (x : Str) (i : Nat) (iv : Int) (hiv : iv = (i : Int)) (hi4 : i ≤ 4000000) (w : World) (hI : (Ex.mk d l).In w) (hk : d.kind = 14) (h0 : ¬ 2 * d.nn < i) (h1 : 0 < i) (h2 : ¬ i % 2 = 0) (r : Bool) (hr : decide (x ∈ d.boundF i) = r) : Calls Try.prog 45 #[.agg #[.int .i64 d.kind, .int .i64 d.n, .string (bstr d.s), .string (bstr d.t), .slice d.nA d.nn d.nc, .slice d.pA d.pn d.pc], .int .i64 iv, .string (bstr x)] w (BdR r w) := by
  have he : d.boundF i = [] := by unfold ExD.boundF; rw [if_neg (by omega), if_neg (by omega), if_neg (by omega), if_neg (by omega)]
  rw [he] at hr
  obtain rfl : r = false := by rw [← hr]; simp []
  clear hr he
  have hr : false = false := rfl
  have hb1 : Below w.heap.size w (w.alloc (.cells #[.int .i64 d.kind, .int .i64 d.n, .string (bstr d.s), .string (bstr d.t), .slice d.nA d.nn d.nc, .slice d.pA d.pn d.pc] 25)) := (Below.refl _ _).alloc (Nat.le_refl _) _
  have HB1 := Lib.hid hb1
  obtain ⟨c0, c1, c2, c3, c4, c5⟩ := ex_box w d
  have hn4 : (d.nn : Int) ≤ 4000000 := by have : d.nn ≤ 4000000 := hI.cap.1.2.2; omega
  have q4 : (d.kind == 4) = false := by rw [hk]; rfl
  have q6 : (d.kind == 6) = false := by rw [hk]; rfl
  have q7 : (d.kind == 7) = false := by rw [hk]; rfl
  have q14 : (d.kind == 14) = true := by rw [hk]; rfl
  have i0 : (iv == 0) = false := by rw [beq_eq_false_iff_ne]; omega
  have i4 : iv ≤ 4000000 := by omega
  have i3 : 0 ≤ iv := by omega
  obtain ⟨j, hj⟩ : ∃ j, (i - 1) / 2 = j := ⟨_, rfl⟩
  have f0 : (iv - 1) / 2 = (j : Int) := by omega
  have f1 : (j : Int) < (d.nn : Int) := by omega
  have f2 : 0 ≤ iv - 1 := by omega
  have i5 : (iv % 2 == 0) = false := by rw [beq_eq_false_iff_ne]; omega
  clear hj h0 h1 h2
  clear hiv hk hI hr hb1
  go_enter Try.func45, Try.ntmps45
  go_wp2_with fail
  all_goals
    go_returns
    exact bdr_of rfl ⟨rfl, HB1.out⟩

set_option maxRecDepth 100000 in
set_option maxHeartbeats 1000000 in
theorem binds_14yy (d : ExD) (l : List Ex) (x : Str) (i : Nat) (iv : Int) (hiv : iv = (i : Int)) (hi4 : i ≤ 4000000) (w : World) (hI : (Ex.mk d l).In w) (hk : d.kind = 14) (h0 : ¬ 2 * d.nn < i) (h1 : 0 < i) (h2 : i % 2 = 0) (j : Nat) (hj : (i - 1) / 2 = j) (hjn : j < d.names.length) (hg1 : x = d.names[j]) (r : Bool) (hr : decide (x ∈ d.boundF i) = r) : Calls Try.prog 45 #[.agg #[.int .i64 d.kind, .int .i64 d.n, .string (bstr d.s), .string (bstr d.t), .slice d.nA d.nn d.nc, .slice d.pA d.pn d.pc], .int .i64 iv, .string (bstr x)] w (BdR r w) := by
  have he : d.boundF i = [d.names[j]] := by
    unfold ExD.boundF
    rw [if_neg (by omega), if_neg (by omega), if_neg (by omega), if_pos ⟨hk, h1, h2⟩, show i / 2 - 1 = j by omega, List.drop_eq_getElem_cons hjn]
    rfl
  rw [he] at hr
  obtain ⟨s, hs⟩ : ∃ s, d.names[j] = s := ⟨_, rfl⟩
  rw [hs] at hg1 hr
  obtain rfl : r = true := by rw [← hr]; simp [hg1]
  clear hr he
  have hb1 : Below w.heap.size w (w.alloc (.cells #[.int .i64 d.kind, .int .i64 d.n, .string (bstr d.s), .string (bstr d.t), .slice d.nA d.nn d.nc, .slice d.pA d.pn d.pc] 25)) := (Below.refl _ _).alloc (Nat.le_refl _) _
  have HB1 := Lib.hid hb1
  obtain ⟨c0, c1, c2, c3, c4, c5⟩ := ex_box w d
  have hn4 : (d.nn : Int) ≤ 4000000 := by have : d.nn ≤ 4000000 := hI.cap.1.2.2; omega
  have q4 : (d.kind == 4) = false := by rw [hk]; rfl
  have q6 : (d.kind == 6) = false := by rw [hk]; rfl
  have q7 : (d.kind == 7) = false := by rw [hk]; rfl
  have q14 : (d.kind == 14) = true := by rw [hk]; rfl
  have i0 : (iv == 0) = false := by rw [beq_eq_false_iff_ne]; omega
  have i4 : iv ≤ 4000000 := by omega
  have i3 : 0 ≤ iv := by omega
  have f0 : (iv - 1) / 2 = (j : Int) := by omega
  have h9 : d.names.length = d.nn := hI.namLen
  have f1 : (j : Int) < (d.nn : Int) := by omega
  have f2 : 0 ≤ iv - 1 := by omega
  have f3 : (0 : Int) ≤ (j : Int) := by omega
  have f4 : (j : Int) ≤ 4000000 := by omega
  have i5 : (iv % 2 == 0) = true := by rw [beq_iff_eq]; omega
  obtain ⟨nb, no, hnA, hcs⟩ := Rd.str (show Rd (w.alloc (.cells #[.int .i64 d.kind, .int .i64 d.n, .string (bstr d.s), .string (bstr d.t), .slice d.nA d.nn d.nc, .slice d.pA d.pn d.pc] 25)) 1 d.nA d.nn (strs d.names) from (hI.nam).below hb1) hjn
  have hc := hcs j hjn
  rw [hs] at hc
  rw [hnA] at c4
  have g1 : ((bstr x).toList == (bstr s).toList) = true := by rw [beq_bstr]; simpa using hg1
  clear hiv hk hI hb1 hcs hnA hs hjn hj h0 h1 h2 h9
  go_enter Try.func45, Try.ntmps45
  go_wp2_with fail
  all_goals
    go_returns
    exact bdr_of rfl ⟨rfl, HB1.out⟩

set_option maxRecDepth 100000 in
set_option maxHeartbeats 1000000 in
theorem binds_14yn (d : ExD) (l : List Ex) (x : Str) (i : Nat) (iv : Int) (hiv : iv = (i : Int)) (hi4 : i ≤ 4000000) (w : World) (hI : (Ex.mk d l).In w) (hk : d.kind = 14) (h0 : ¬ 2 * d.nn < i) (h1 : 0 < i) (h2 : i % 2 = 0) (j : Nat) (hj : (i - 1) / 2 = j) (hjn : j < d.names.length) (hg1 : ¬ x = d.names[j]) (r : Bool) (hr : decide (x ∈ d.boundF i) = r) : Calls Try.prog 45 #[.agg #[.int .i64 d.kind, .int .i64 d.n, .string (bstr d.s), .string (bstr d.t), .slice d.nA d.nn d.nc, .slice d.pA d.pn d.pc], .int .i64 iv, .string (bstr x)] w (BdR r w) := by
  have he : d.boundF i = [d.names[j]] := by
    unfold ExD.boundF
    rw [if_neg (by omega), if_neg (by omega), if_neg (by omega), if_pos ⟨hk, h1, h2⟩, show i / 2 - 1 = j by omega, List.drop_eq_getElem_cons hjn]
    rfl
  rw [he] at hr
  obtain ⟨s, hs⟩ : ∃ s, d.names[j] = s := ⟨_, rfl⟩
  rw [hs] at hg1 hr
  obtain rfl : r = false := by rw [← hr]; simp [hg1]
  clear hr he
  have hb1 : Below w.heap.size w (w.alloc (.cells #[.int .i64 d.kind, .int .i64 d.n, .string (bstr d.s), .string (bstr d.t), .slice d.nA d.nn d.nc, .slice d.pA d.pn d.pc] 25)) := (Below.refl _ _).alloc (Nat.le_refl _) _
  have HB1 := Lib.hid hb1
  obtain ⟨c0, c1, c2, c3, c4, c5⟩ := ex_box w d
  have hn4 : (d.nn : Int) ≤ 4000000 := by have : d.nn ≤ 4000000 := hI.cap.1.2.2; omega
  have q4 : (d.kind == 4) = false := by rw [hk]; rfl
  have q6 : (d.kind == 6) = false := by rw [hk]; rfl
  have q7 : (d.kind == 7) = false := by rw [hk]; rfl
  have q14 : (d.kind == 14) = true := by rw [hk]; rfl
  have i0 : (iv == 0) = false := by rw [beq_eq_false_iff_ne]; omega
  have i4 : iv ≤ 4000000 := by omega
  have i3 : 0 ≤ iv := by omega
  have f0 : (iv - 1) / 2 = (j : Int) := by omega
  have h9 : d.names.length = d.nn := hI.namLen
  have f1 : (j : Int) < (d.nn : Int) := by omega
  have f2 : 0 ≤ iv - 1 := by omega
  have f3 : (0 : Int) ≤ (j : Int) := by omega
  have f4 : (j : Int) ≤ 4000000 := by omega
  have i5 : (iv % 2 == 0) = true := by rw [beq_iff_eq]; omega
  obtain ⟨nb, no, hnA, hcs⟩ := Rd.str (show Rd (w.alloc (.cells #[.int .i64 d.kind, .int .i64 d.n, .string (bstr d.s), .string (bstr d.t), .slice d.nA d.nn d.nc, .slice d.pA d.pn d.pc] 25)) 1 d.nA d.nn (strs d.names) from (hI.nam).below hb1) hjn
  have hc := hcs j hjn
  rw [hs] at hc
  rw [hnA] at c4
  have g1 : ((bstr x).toList == (bstr s).toList) = false := by rw [beq_bstr]; simpa using hg1
  clear hiv hk hI hb1 hcs hnA hs hjn hj h0 h1 h2 h9
  go_enter Try.func45, Try.ntmps45
  go_wp2_with fail
  all_goals
    go_returns
    exact bdr_of rfl ⟨rfl, HB1.out⟩

set_option maxRecDepth 100000 in
set_option maxHeartbeats 1000000 in
theorem binds_o (d : ExD) (l : List Ex) (x : Str) (i : Nat) (iv : Int) (hiv : iv = (i : Int)) (hi4 : i ≤ 4000000) (w : World) (hI : (Ex.mk d l).In w) (h4 : ¬ d.kind = 4) (h6 : ¬ d.kind = 6) (h7 : ¬ d.kind = 7) (h14 : ¬ d.kind = 14)  (r : Bool) (hr : decide (x ∈ d.boundF i) = r) : Calls Try.prog 45 #[.agg #[.int .i64 d.kind, .int .i64 d.n, .string (bstr d.s), .string (bstr d.t), .slice d.nA d.nn d.nc, .slice d.pA d.pn d.pc], .int .i64 iv, .string (bstr x)] w (BdR r w) := by
  have he : d.boundF i = [] := by unfold ExD.boundF; simp [h4, h6, h7, h14]
  rw [he] at hr
  obtain rfl : r = false := by rw [← hr]; simp []
  clear hr he
  have hr : false = false := rfl
  have hb1 : Below w.heap.size w (w.alloc (.cells #[.int .i64 d.kind, .int .i64 d.n, .string (bstr d.s), .string (bstr d.t), .slice d.nA d.nn d.nc, .slice d.pA d.pn d.pc] 25)) := (Below.refl _ _).alloc (Nat.le_refl _) _
  have HB1 := Lib.hid hb1
  obtain ⟨c0, c1, c2, c3, c4, c5⟩ := ex_box w d
  have hn4 : (d.nn : Int) ≤ 4000000 := by have : d.nn ≤ 4000000 := hI.cap.1.2.2; omega
  have q4 : (d.kind == 4) = false := by simpa using h4
  have q6 : (d.kind == 6) = false := by simpa using h6
  have q7 : (d.kind == 7) = false := by simpa using h7
  have q14 : (d.kind == 14) = false := by simpa using h14
  clear hiv h4 h6 h7 h14 hI hr hb1
  go_enter Try.func45, Try.ntmps45
  go_wp2_with fail
  all_goals
    go_returns
    exact bdr_of rfl ⟨rfl, HB1.out⟩

theorem binds_any (d : ExD) (l : List Ex) (x : Str) (i : Nat) (hi4 : i ≤ 4000000) (w : World) (hI : (Ex.mk d l).In w) : Calls Try.prog 45 #[.agg #[.int .i64 d.kind, .int .i64 d.n, .string (bstr d.s), .string (bstr d.t), .slice d.nA d.nn d.nc, .slice d.pA d.pn d.pc], .int .i64 (i : Int), .string (bstr x)] w (BdR (decide (x ∈ d.boundF i)) w) := by
  by_cases h4 : d.kind = 4
  · by_cases h0 : i = 0
    · by_cases g : x = d.s
      · exact binds_4y d l x i _ rfl hi4 w hI h4 h0 g _ rfl
      · exact binds_4n d l x i _ rfl hi4 w hI h4 h0 g _ rfl
    · exact binds_4o d l x i _ rfl hi4 w hI h4 h0 _ rfl
  · by_cases h6 : d.kind = 6
    · by_cases h0 : i = 1
      · by_cases g : x = d.s
        · exact binds_6y d l x i _ rfl hi4 w hI h6 h0 g _ rfl
        · exact binds_6n d l x i _ rfl hi4 w hI h6 h0 g _ rfl
      · exact binds_6o d l x i _ rfl hi4 w hI h6 h0 _ rfl
    · by_cases h7 : d.kind = 7
      · by_cases h0 : i = 0
        · by_cases g : x = d.s
          · exact binds_70y d l x i _ rfl hi4 w hI h7 h0 g _ rfl
          · by_cases g2 : x = d.t
            · exact binds_70ny d l x i _ rfl hi4 w hI h7 h0 g g2 _ rfl
            · exact binds_70nn d l x i _ rfl hi4 w hI h7 h0 g g2 _ rfl
        · by_cases h1 : i = 1
          · by_cases g : x = d.s
            · exact binds_71y d l x i _ rfl hi4 w hI h7 h1 g _ rfl
            · exact binds_71n d l x i _ rfl hi4 w hI h7 h1 g _ rfl
          · exact binds_7o d l x i _ rfl hi4 w hI h7 (by omega) _ rfl
      · by_cases h14 : d.kind = 14
        · by_cases h0 : i = 0
          · exact binds_14z d l x i _ rfl hi4 w hI h14 h0 _ rfl
          · by_cases h1 : 2 * d.nn < i
            · by_cases g : x = d.t
              · exact binds_14ty d l x i _ rfl hi4 w hI h14 h1 g _ rfl
              · exact binds_14tn d l x i _ rfl hi4 w hI h14 h1 g _ rfl
            · by_cases h2 : i % 2 = 0
              · have hjn : (i - 1) / 2 < d.names.length := by have h9 : d.names.length = d.nn := hI.namLen; omega
                by_cases g : x = d.names[(i - 1) / 2]
                · exact binds_14yy d l x i _ rfl hi4 w hI h14 h1 (by omega) h2 _ rfl hjn g _ rfl
                · exact binds_14yn d l x i _ rfl hi4 w hI h14 h1 (by omega) h2 _ rfl hjn g _ rfl
              · exact binds_14n d l x i _ rfl hi4 w hI h14 h1 (by omega) h2 _ rfl
        · exact binds_o d l x i _ rfl hi4 w hI h4 h6 h7 h14 _ rfl
end Go.Proofs.Ytpnihimoekkepaa
