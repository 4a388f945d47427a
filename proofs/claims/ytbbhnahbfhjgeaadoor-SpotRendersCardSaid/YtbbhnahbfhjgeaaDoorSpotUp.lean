/-
  The document's example, played.
-/
import Derived.Test.YtbbhnahbfhjgeaaDoorSpotB
import Derived.Test.YtbbhnahbfhjgeaaDoorSpotN
import Derived.Test.YtbbhnahbfhjgeaaDoorSpotLay
import Derived.Lib.SlBytesConst
namespace Go.Proofs.YtbbhnahbfhjgeaaDoor
open Go.ChangeShapes Go.WideShapes Go.ChangeAt Go.RowKit
set_option linter.unusedVariables false
set_option linter.unusedSimpArgs false

theorem where_ab : whereV [97, 10, 98] 2 = .tuple #[.int .i64 2, .int .i64 1] := by rfl

set_option maxRecDepth 100000 in
set_option maxHeartbeats 1000000 in
theorem up_any (w : World) (hL : Lay w) : Calls Tryd.prog 6 #[] w fun e w' => e = .returned (.bool true) ∧ Below w.heap.size w w' := by
  have hb1 : Below w.heap.size w (w.alloc (.cells #[.int .u8 97, .int .u8 10, .int .u8 98] 5 (3, 4))) := (Below.refl _ _).alloc (Nat.le_refl _) _
  have HW := Lib.hid (where_any (some ⟨w.heap.size, 0, none⟩) [97, 10, 98] 3 3 2 (w.alloc (.cells #[.int .u8 97, .int .u8 10, .int .u8 98] 5 (3, 4))) (Rd.lit w #[.int .u8 97, .int .u8 10, .int .u8 98] 5 rfl) (by decide) (by decide))
  rw [where_ab] at HW
  have cvc := Lib.run_convert_bytes_const (P := Tryd.prog) w 22 5 #[.int .u8 97, .int .u8 10, .int .u8 98] 3 3 Tryd.underlying22 Tryd.underlying5
  have HL := Lib.hid hL
  have HB1 := Lib.hid hb1
  clear hL hb1
  go_enter Tryd.func6, Tryd.ntmps6
  go_wp2_with fail
  refine HW.out.mono ?_
  rintro e w2 ⟨rfl, hb2⟩
  have HB2 := Lib.hid (below_then HB1.out hb2)
  clear hb2 cvc
  go_wp2_with fail
  refine (wrap_nil _ w2).mono ?_
  rintro e w3 ⟨rfl, rfl⟩
  go_wp2_with fail
  refine (render_nil _ w2).mono ?_
  rintro e w3 ⟨rfl, rfl⟩
  go_wp2_with fail
  refine (at_any 3 2 w2).mono ?_
  rintro e w3 ⟨rfl, hw3⟩
  have hb3 : Below w2.heap.size w2 w3 := by rw [hw3]; exact (Below.refl _ _).alloc (Nat.le_refl _) _
  have hc3 : w3.cell? ⟨w2.heap.size, 1, none⟩ = some (.int .i64 2) := by rw [hw3]; exact cell_new w2 _ _ 1 rfl
  have HB3 := Lib.hid (below_then HB2.out hb3)
  have HN := Lib.hid (number_spot w2.heap.size 2 w3 (HL.out.below HB3.out).et hc3)
  clear hw3 hb3 hc3
  go_wp2_with fail
  refine HN.out.mono ?_
  rintro e w4 ⟨rfl, hb4⟩
  have HB4 := Lib.hid (below_then HB3.out hb4)
  clear hb4
  go_wp2_with fail
  go_returns
  exact ⟨rfl, HB4.out⟩

set_option maxRecDepth 100000 in
theorem wheres_any (l : Str) (A : Option Addr) (cp : Nat) (at_ : Int) (w : World) (hL : Lay w) (hr : Rd w 1 A l.length (u8s l)) (hcap : l.length ≤ cp) (hcm : cp ≤ maxLen) :
    Calls Tryd.prog 3 #[.slice A l.length cp, .int .i64 at_] w fun e w' => e = .returned (.bool true) ∧ Below w.heap.size w w' := by
  unfold maxLen at hcm
  have HL := Lib.hid hL
  have HR := Lib.hid hr
  clear hL hr
  by_cases h1 : 5000 < l.length
  · have h1i : (5000 : Int) < (l.length : Int) := by omega
    clear h1
    go_enter Tryd.func3, Tryd.ntmps3
    go_wp2_with fail
    refine (up_any w HL.out).mono ?_
    rintro e w1 ⟨rfl, hb1⟩
    go_wp2_with fail
    go_returns
    exact ⟨rfl, hb1⟩
  have h1i : ¬ (5000 : Int) < (l.length : Int) := by omega
  go_enter Tryd.func3, Tryd.ntmps3
  go_wp2_with fail
  refine (up_any w HL.out).mono ?_
  rintro e w1 ⟨rfl, hb1⟩
  have HB1 := Lib.hid hb1
  clear hb1
  go_wp2_with fail
  have HW := Lib.hid (where_any A l l.length cp at_ w1 (HR.out.below HB1.out) hcap (by omega))
  have HQ := Lib.hid (fun w' (hb' : Below w.heap.size w w') => refWhere_any A l l.length cp at_ w' (HR.out.below hb') (by omega))
  unfold whereV at HW HQ
  generalize ((lineF (l.take (ahead l.length at_)) : Nat) : Int) = ln at HW HQ
  generalize ((colF (l.take (ahead l.length at_)) : Nat) : Int) = cl at HW HQ
  refine HW.out.mono ?_
  rintro e w2 ⟨rfl, hb2⟩
  have HB2 := Lib.hid (below_then HB1.out hb2)
  clear hb2 HW
  go_wp2_with fail
  refine (HQ.out w2 HB2.out).mono ?_
  rintro e w3 ⟨rfl, rfl⟩
  have e1 : (ln == ln) = true := by simp
  have e2 : (cl == cl) = true := by simp
  clear HQ
  go_wp2_with fail
  go_returns
  exact ⟨rfl, HB2.out⟩
end Go.Proofs.YtbbhnahbfhjgeaaDoor
