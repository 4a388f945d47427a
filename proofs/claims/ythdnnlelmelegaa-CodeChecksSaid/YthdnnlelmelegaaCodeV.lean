/-
  Reading lists of numbers.
-/
import Derived.Test.YthdnnlelmelegaaCodeU
namespace Go.Proofs.Ythdnnlelmelegaa
open Go.ChangeShapes Go.WideShapes Go.ChangeAt Go.RowKit
set_option linter.unusedVariables false

def intE : Elt Int Int where
  cells n := [.int .i64 n]
  abs n := n
  good _ n := inRange n
  away _ _ := True
  keep h _ _ := h
  lt _ := trivial
  mono _ _ := trivial
theorem elInt : ElemTy Try.prog 45 3 (.int .i64 0) 1 8 := ⟨Try.underlying45, by kernel_rfl, rfl, by decide, by decide⟩
theorem elInt64 : ElemTy Try.prog 22 2 (.int .i64 0) 1 8 := ⟨Try.underlying22, by kernel_rfl, rfl, by decide, by decide⟩
theorem oneInt (n : Int) : ∀ u ∈ (#[Value.int .i64 n] : Array Value).toList, u.oneCell' = true := by
  intro u hu; simp at hu; subst hu; rfl
theorem rd_le : ∀ s x r, rd s = some (x, r) → r.length ≤ s.length := fun s x r h => Nat.le_of_lt (rd_len s x r h)

set_option maxRecDepth 100000 in
set_option maxHeartbeats 400000 in
theorem listInt_any (rb : Nat) (s : List UInt8) (bad : Bool) (w : World) (h : RSt w rb s bad) (hbad : bad = true → s = []) (hl : s.length ≤ 1099511627776) :
    Calls Try.prog 50 #[.pointer (some ⟨rb, 0, none⟩), .func (.func 43) #[.pointer (some ⟨rb, 0, none⟩)] #[]] w fun e w' => ListRes intE rd 3 1 rb s bad w e w' := by
  have hrb : rb < w.heap.size := by obtain ⟨A, c, hs⟩ := h; exact World.block_lt_of_cell? w _ hs.c0
  go_enter Try.func50, Try.ntmps50
  go_wp2_with fail
  refine (rcount_any rb s bad w h hbad hl).mono ?_
  rintro e w1 ⟨n, rfl, hst, hn, hk⟩
  obtain ⟨s0, b0, hs0, hb0, hl0, hnl, hpl⟩ := hst.enter hn
  have HC : RowKit.Hid (Cnt rb n s bad s0 b0 w w1) := Lib.hid ⟨hpl, hnl, hl0, hk⟩
  have hnn : n ≤ 1099511627776 := by omega
  have hrb1 : rb < w1.heap.size := Nat.lt_of_lt_of_le hrb hk.size
  clear hst hn hk hpl hbad h
  obtain ⟨T, hTT⟩ : ∃ T, T = (if b0 then none else plistN rd n s0) := ⟨_, rfl⟩
  have hstart := LR.start intE rd 3 1 (rb := rb) (n := n) (s := s) (bad := false) (w := w) hs0 hb0
  rw [← hTT] at hstart
  have HT0 := Lib.hid hTT
  clear hTT hs0 hb0
  go_wp2_with fail
  go_loopw [5, 8] (fun z i wr => LR intE rd 3 1 rb n T s0.length w1 z i wr) (fun _ i _ => n - (intOf i).toNat)
  case atStart => exact hstart
  case round =>
    clear hstart
    have HREL := Lib.hid hrel
    obtain ⟨k, l, s', bad', rfl, hkn, hlk, hown, hgood, hst, hbd, hsl, hrk, hT⟩ := hrel
    by_cases hlt : k < n
    · obtain ⟨A, c, hs⟩ := hst
      have c1 := hs.c1
      cases bad' with
      | true =>
        have hsn := hbd rfl
        have HX : RowKit.Hid (T = none) := Lib.hid (by rcases hT with ⟨h, _⟩ | ⟨_, h⟩; cases h; exact h)
        have HS := Lib.hid hs
        have HK := Lib.hid (And.intro hsn hrk)
        clear hT hs hsn hbd hrk hgood hown
        go_wp2_with fail
        go_returns
        exact LR.amiss intE rd 3 1 (l := []) (k := 0) HC.out HT0.out (by have h1 := HS.out; rw [HK.out.1] at h1; exact ⟨_, _, h1⟩) HK.out.2 HX.out
      | false =>
        have HX : RowKit.Hid (T = (plistN rd (n - k) s').map fun x => (l.map intE.abs ++ x.1, x.2)) := Lib.hid (by rcases hT with ⟨_, h⟩ | ⟨h, _⟩; exact h; cases h)
        have HK := Lib.hid (And.intro hs (And.intro hlk (And.intro hgood (And.intro hsl hrk))))
        clear hT hbd hgood
        go_wp2_with fail
        refine (rint_any rb s' false wr ⟨A, c, hs⟩ (fun h => by cases h) (by have := HC.out.l; omega)).mono ?_
        rintro e w2 ⟨y, rfl, hy, hst2, hk2⟩
        have hs2 := hk2.size
        have hs1 := hrk.size
        have hown2 : w2.ownsRow w1.heap.size 3 1 u5 k (l.flatMap intE.cells) := own_rk hown hk2 hrb1
        have HY := Lib.hid (And.intro hy (And.intro hst2 hk2))
        clear hst2 hk2 hy hrk hs
        go_wp2_with (at_builtin; refine wpList_app elInt _ rfl (.tmp 14) (.tmp 17) rfl w1.heap.size u5 k _ rfl (hown2.alloc _) (some ⟨w2.heap.size, 0, none⟩) 1 1 _ rfl (Rd.lit w2 _ _ rfl) (oneInt _) (by omega) (by simp; omega) ?_; intro v' w6 hown6 hb6 hg6 ho6)
        go_roundw
        case rel => exact LR.step intE rd 3 1 hrb1 hlt HK.out.2.1 hown HK.out.2.2.1 HK.out.2.2.2.1 HK.out.2.2.2.2 HX.out rd_le HY.out.1 trivial HY.out.2.1 HY.out.2.2 hown6 hg6 ho6
        case measure => simp [intOf] <;> omega
    · obtain rfl : k = n := by omega
      obtain ⟨A, c, rfl, _⟩ := own_cap hown
      have hd := LR.done intE rd 3 1 HC.out hrb (by rw [← HT0.out]; exact HREL.out)
      have HD := Lib.hid hd
      clear hd hT hgood
      go_wp2_with fail
      go_returns
      exact HD.out
end Go.Proofs.Ythdnnlelmelegaa
