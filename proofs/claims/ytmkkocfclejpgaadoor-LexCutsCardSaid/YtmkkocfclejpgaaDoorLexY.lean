/-
  The tokens of the code, as the document's.
-/
import Derived.Test.YtmkkocfclejpgaaDoorLexX
import Derived.Test.YtmkkocfclejpgaaDoorLexBackA
import Derived.Deep.RegionHeld3
import Derived.Deep.DrawnRows

namespace Go.Proofs.YtmkkocfclejpgaaDoor
open Go.ChangeShapes Go.WideShapes Go.ChangeAt Go.RowKit
set_option linter.unusedVariables false
set_option linter.unusedSimpArgs false

section
attribute [local go_sem ↓] Go.wp_at_zero Go.wp_at_succ
/-- The append of a row, at a step of a region that draws its order. -/
theorem step_app {P : Program} {t e : TypeId} {z : Value} {size bytes : Nat} (T : ElemTy P t e z size bytes) {w : World} {ops : Array Oper} {o : Oper} {a : Act} {K : Act → World → Prop} {Q : Exit → Act → World → Prop} {E : Prop} (hgd : o.guard = none) (s x : Operand)
    (ho : o.op = .call { callee := .builtin .append, args := #[s, x], argTypes := #[t, t] }) (base : Nat)
    (v : Value) (n : Nat) (xs : List Value) (hs : a.eval s = v) (hown : w.ownsRow base e size v n xs) (A : Option Addr) (m c : Nat) (news : List Value) (hx : a.eval x = .slice A m c) (hr : Rd w size A m news) (h1 : ∀ u ∈ news, u.oneCell' = true)
    (hbytes : (n + m) * bytes ≤ 140737488355328) (hbase : base ≤ w.heap.size)
    (h : ∀ v' w', w'.ownsRow base e size v' (n + m) (xs ++ news) → Below base w w' → K (a.put o.dst v') w') :
    if Region.wanted o (yielded ops a.tmps) = true then Oper.wp P o a w K Q else E := by
  have hw : Region.wanted o (yielded ops a.tmps) = true := by simp [Region.wanted, hgd]
  rw [if_pos hw]
  obtain ⟨v', w', hrun, h2, h3, h4⟩ := run_app T w o.type base v n xs hown A m c news hr h1 hbytes hbase
  unfold Oper.wp execOp
  simp only [ho, resolve, invoke, builtin, Sem.run_bind, Sem.run_pure, Result.andThen_ok, List.map_toArray, List.map_cons, List.map_nil, hs, hx, hrun]
  exact h v' w' h2 ((Below.refl _ _).grown h3 hbase (fun k hk => (hown.lt k hk).1))
end

/-- Where the turning stands. -/
structure AL (w : World) (n : Nat) (ts : List Tok) (k : Nat) (z : Value) (wr : World) : Prop where
  hi : k ≤ n
  own : wr.ownsRow w.heap.size 49 4 z k (toks (ts.take k))
  b : Below w.heap.size w wr

set_option maxRecDepth 100000 in
set_option maxHeartbeats 2000000 in
theorem asTok_any (A : Option Addr) (ts : List Tok) (n cp : Nat) (w : World) (hr : Rd w 4 A n (toks ts)) (hn : ts.length = n) (hm : n ≤ 4000) :
    Calls Tryd.prog 11 #[.slice A n cp] w fun e w' => ∃ v, e = .returned v ∧ w'.ownsRow w.heap.size 49 4 v n (toks ts) ∧ Below w.heap.size w w' := by
  have HR := Lib.hid hr
  have HN := Lib.hid hn
  clear hr hn
  go_enter Tryd.func11, Tryd.ntmps11
  go_wp2_with fail
  go_loopw [3, 4] (fun z i wr => ∃ k : Nat, i = .int .i64 k ∧ AL w n ts k z wr) (fun _ i _ => n - (intOf i).toNat)
  case atStart => exact ⟨0, rfl, by omega, by rw [List.take_zero]; exact World.ownsRow_nil _ _ _ _, Below.refl _ _⟩
  case round =>
    obtain ⟨k, rfl, hc⟩ := hrel
    have HC := Lib.hid hc
    have hk := hc.hi
    clear hc
    have z0 : (0 : Int) ≤ (k : Int) := by omega
    by_cases hlt : k < n
    · have z1 : (k : Int) < (n : Int) := by omega
      have hkt : k < ts.length := by rw [HN.out]; exact hlt
      obtain ⟨b, o, rfl, hb, hT⟩ := HR.out.tok hkt
      have t4 := hT k hkt
      obtain ⟨kd, hkd⟩ : ∃ kd, ts[k].kind = kd := ⟨_, rfl⟩
      obtain ⟨pl, hpl⟩ : ∃ pl : Int, (ts[k].place : Int) = pl := ⟨_, rfl⟩
      obtain ⟨nn, hnn⟩ : ∃ nn, ts[k].n = nn := ⟨_, rfl⟩
      obtain ⟨x, hx⟩ : ∃ x, bstr ts[k].s = x := ⟨_, rfl⟩
      have HTK := Lib.hid (show toks (ts.take (k + 1)) = toks (ts.take k) ++ [.int .i64 kd, .int .i64 pl, .int .i64 nn, .string x] by
        rw [List.take_succ_eq_append_getElem hkt, toks_append, toks_one, ← hkd, ← hpl, ← hnn, ← hx]; rfl)
      obtain ⟨g0, g1, g2, g3⟩ := t4
      rw [hkd] at g0
      rw [hpl] at g1
      rw [hnn] at g2
      rw [hx] at g3
      have HS := Lib.hid (fun (w6 : World) (h6 : Below w.heap.size w w6) => And.intro (cell_below h6 g0) (And.intro (cell_below h6 g1) (And.intro (cell_below h6 g2) (cell_below h6 g3))))
      clear hT hkd hpl hnn hx hkt g0 g1 g2 g3
      obtain ⟨g0, g1, g2, g3⟩ := HS.out wr HC.out.b
      have HOW := Lib.hid (show (wr.drew.alloc (.cells #[.int .i64 kd, .int .i64 pl, .int .i64 nn, .string x] 49)).ownsRow w.heap.size 49 4 u3 k (toks (ts.take k)) from (show wr.drew.ownsRow w.heap.size 49 4 u3 k (toks (ts.take k)) from HC.out.own).alloc (.cells #[.int .i64 kd, .int .i64 pl, .int .i64 nn, .string x] 49))
      have HRD := Lib.hid (Rd.lit (size := 4) (n := 1) wr.drew #[.int .i64 kd, .int .i64 pl, .int .i64 nn, .string x] 49 rfl (fr := (0, 0)))
      have HB3 := Lib.hid (show Below w.heap.size w (wr.drew.alloc (.cells #[.int .i64 kd, .int .i64 pl, .int .i64 nn, .string x] 49)) from (below_drewN HC.out.b 1).alloc HC.out.b.size _)
      go_wp2_with fail
      go_region_held3 (fun w' => w'.cell? ⟨b, o + k * 4, none⟩ = some (.int .i64 kd) ∧ w'.cell? ⟨b, o + k * 4 + 1, none⟩ = some (.int .i64 pl) ∧ w'.cell? ⟨b, o + k * 4 + 2, none⟩ = some (.int .i64 nn) ∧ w'.cell? ⟨b, o + k * 4 + 3, none⟩ = some (.string x))
        (first | exact HS.out _ (HB3.out.trans hb6) | exact HS.out _ HB3.out | go_keep | fail)
        (first
          | (refine step_app elTokR (by rfl) (.tmp 11) (.tmp 33) (by rfl) w.heap.size u3 k _ (by rfl) HOW.out (some ⟨wr.heap.size, 0, none⟩) 1 1 _ (by rfl) HRD.out (four_one _ _ _ _) (by omega) HB3.out.size ?_; intro v6 w6 hown6 hb6)
          | fail)
      go_wp2_with fail
      go_roundw
      case rel => exact ⟨k + 1, by go_num, by omega, by rw [HTK.out]; exact hown6, HB3.out.trans hb6⟩
      case measure => simp [intOf] <;> omega
    · have z1 : ¬ (k : Int) < (n : Int) := by omega
      go_wp2_with fail
      go_returns
      obtain rfl : k = n := by omega
      refine ⟨u3, rfl, ?_, HC.out.b⟩
      have := HC.out.own
      rwa [List.take_of_length_le (by rw [HN.out]; exact Nat.le_refl _)] at this
end Go.Proofs.YtmkkocfclejpgaaDoor
