/-
  All tokens, by the document's answer.
-/
import Derived.Test.YtmkkocfclejpgaaDoorLexW
namespace Go.Proofs.YtmkkocfclejpgaaDoor
open Go.ChangeShapes Go.WideShapes Go.ChangeAt Go.RowKit
set_option linter.unusedVariables false
set_option linter.unusedSimpArgs false

set_option maxRecDepth 100000 in
set_option maxHeartbeats 2000000 in
theorem refCut_any (A : Option Addr) (l : Str) (cp : Nat) (w : World) (hr : Rd w 1 A l.length (u8s l)) (hcap : l.length ≤ cp) (hm : l.length ≤ 4000) :
    Calls Tryd.prog 8 #[.slice A l.length cp] w fun e w' => RefCutRes (cutS l 0) w e w' := by
  have HR := Lib.hid hr
  obtain ⟨r, hrr⟩ : ∃ r, cutS l 0 = r := ⟨_, rfl⟩
  have HRR := Lib.hid hrr
  rw [hrr]
  clear hr hrr
  go_enter Tryd.func8, Tryd.ntmps8
  go_wp2_with fail
  go_loopw [5, 6] (fun z i wr => ∃ (p : Nat) (acc : List Tok), i = .int .i64 p ∧ CR w l p acc z wr) (fun _ i _ => l.length - (intOf i).toNat)
  case atStart =>
    refine ⟨0, [], rfl, ⟨by omega, ?_, World.ownsRow_nil _ _ _ _, Below.refl _ _, by simp⟩⟩
    rw [CutR.pre_nil]; rfl
  case round =>
    obtain ⟨p, acc, rfl, hc⟩ := hrel
    have HC := Lib.hid hc
    have hhi := hc.hi
    have hln := hc.len
    clear hc
    have z0 : (0 : Int) ≤ (p : Int) := by omega
    by_cases hp : p < l.length
    · have z1 : (p : Int) < (l.length : Int) := by omega
      obtain ⟨b, o, rfl, _, hcl⟩ := (HR.out.below HC.out.b).byte (k := p) hp
      obtain ⟨c, hck⟩ : ∃ c, l[p] = c := ⟨_, rfl⟩
      have g0 := hcl p hp
      rw [hck] at g0
      have HCK := Lib.hid hck
      clear hcl hck
      by_cases h32 : c.toNat = 32
      · have t32 : ((c.toNat : Int) == 32) = true := by rw [beq_iff_eq]; omega
        have hsp : spcB c = true := by unfold spcB; rw [decide_eq_true_iff]; omega
        have HN := Lib.hid (HC.out.space hp c HCK.out hsp)
        clear hsp
        go_wp2_with fail
        go_roundw
        case rel => exact ⟨p + 1, acc, by go_num, HN.out⟩
        case measure => simp [intOf] <;> omega
      · have t32 : ((c.toNat : Int) == 32) = false := by rw [beq_eq_false_iff_ne]; omega
        by_cases h10 : c.toNat = 10
        · have t10 : ((c.toNat : Int) == 10) = true := by rw [beq_iff_eq]; omega
          have hsp : spcB c = true := by unfold spcB; rw [decide_eq_true_iff]; omega
          have HN := Lib.hid (HC.out.space hp c HCK.out hsp)
          clear hsp
          go_wp2_with fail
          go_roundw
          case rel => exact ⟨p + 1, acc, by go_num, HN.out⟩
          case measure => simp [intOf] <;> omega
        · have t10 : ((c.toNat : Int) == 10) = false := by rw [beq_eq_false_iff_ne]; omega
          by_cases h9 : c.toNat = 9
          · have t9 : ((c.toNat : Int) == 9) = true := by rw [beq_iff_eq]; omega
            have hsp : spcB c = true := by unfold spcB; rw [decide_eq_true_iff]; omega
            have HN := Lib.hid (HC.out.space hp c HCK.out hsp)
            clear hsp
            go_wp2_with fail
            go_roundw
            case rel => exact ⟨p + 1, acc, by go_num, HN.out⟩
            case measure => simp [intOf] <;> omega
          · have t9 : ((c.toNat : Int) == 9) = false := by rw [beq_eq_false_iff_ne]; omega
            have hsp : spcB c = false := by unfold spcB; rw [decide_eq_false_iff_not]; omega
            have HSP := Lib.hid hsp
            clear hsp h32 h10 h9
            go_wp2_with fail
            refine (refOne_any _ l cp p wr (HR.out.below HC.out.b) hp hcap (by omega)).mono ?_
            clear g0
            rintro e w2 ho
            cases hone : one (l.drop p) with
            | bad o2 =>
              rw [hone] at ho
              obtain ⟨a0, a1, a2, x, to, rfl, hb2⟩ := ho
              have hres := HC.out.bad hp c HCK.out HSP.out o2 hone
              rw [HRR.out] at hres
              have HRES := Lib.hid hres
              have HB2 := Lib.hid (below_then HC.out.b hb2)
              have zz : (0 : Int) ≤ ((p + o2 : Nat) : Int) := by omega
              clear hb2 hres hone
              go_wp2_with fail
              go_returns
              rw [HRES.out]
              exact ⟨rfl, HB2.out.alloc (by have := HB2.out.size; omega) _⟩
            | ok t n =>
              rw [hone] at ho
              obtain ⟨rfl, hb2⟩ := ho
              obtain ⟨hpn, hn0, hinv⟩ := HC.out.next hp c HCK.out HSP.out t n hone
              have HB2 := Lib.hid hb2
              have HIN := Lib.hid hinv
              unfold tokV
              clear hb2 hinv hone
              have hsz : w.heap.size ≤ w2.heap.size := Nat.le_trans HC.out.b.size HB2.out.size
              have HOW := Lib.hid (((own_below HC.out.own HB2.out).alloc (.cells #[.int .i64 (t.put p).kind, .int .i64 ((t.put p).place : Int), .int .i64 (t.put p).n, .string (bstr (t.put p).s)] 49)).alloc (.cells #[.int .i64 (t.put p).kind, .int .i64 ((t.put p).place : Int), .int .i64 (t.put p).n, .string (bstr (t.put p).s)] 49))
              have hrd := Rd.lit (size := 4) (n := 1) (w2.alloc (.cells #[.int .i64 (t.put p).kind, .int .i64 ((t.put p).place : Int), .int .i64 (t.put p).n, .string (bstr (t.put p).s)] 49)) #[.int .i64 (t.put p).kind, .int .i64 ((t.put p).place : Int), .int .i64 (t.put p).n, .string (bstr (t.put p).s)] 49 rfl (fr := (0, 0))
              rw [World.size_alloc] at hrd
              have HRD := Lib.hid hrd
              have HB3 := Lib.hid (show Below w.heap.size w ((w2.alloc (.cells #[.int .i64 (t.put p).kind, .int .i64 ((t.put p).place : Int), .int .i64 (t.put p).n, .string (bstr (t.put p).s)] 49)).alloc (.cells #[.int .i64 (t.put p).kind, .int .i64 ((t.put p).place : Int), .int .i64 (t.put p).n, .string (bstr (t.put p).s)] 49)) from ((below_then HC.out.b HB2.out).alloc hsz _).alloc (by rw [World.size_alloc]; omega) _)
              clear hrd
              have hown7 : ∀ (v' : Value) (w6 : World), w6.ownsRow w.heap.size 49 4 v' (acc.length + 1) (toks acc ++ [.int .i64 (t.put p).kind, .int .i64 ((t.put p).place : Int), .int .i64 (t.put p).n, .string (bstr (t.put p).s)]) → w6.ownsRow w.heap.size 49 4 v' (acc ++ [t.put p]).length (toks (acc ++ [t.put p])) := fun v' w6 h => by
                rw [toks_append, toks_one, List.length_append]; exact h
              have HN := Lib.hid (fun (v' : Value) (w6 : World) (h : w6.ownsRow w.heap.size 49 4 v' (acc.length + 1) (toks acc ++ [.int .i64 (t.put p).kind, .int .i64 ((t.put p).place : Int), .int .i64 (t.put p).n, .string (bstr (t.put p).s)])) (hb : Below w.heap.size w w6) => (⟨hpn, HIN.out, hown7 v' w6 h, hb, by rw [List.length_append]; simp; omega⟩ : CR w l (p + n) (acc ++ [t.put p]) v' w6))
              clear hown7
              go_wp2_with (at_builtin; refine wpList_app elTokR _ rfl (.tmp 48) (.tmp 50) rfl w.heap.size u5 acc.length _ rfl HOW.out (some ⟨w2.heap.size + 1, 0, none⟩) 1 1 _ rfl HRD.out (four_one _ _ _ _) (by omega) HB3.out.size ?_; intro v' w6 hown6 hb6 hg6 ho6)
              have HN2 := Lib.hid (HN.out v' w6 hown6 (HB3.out.trans hb6))
              clear hown6 hb6 hg6 ho6
              try go_wp2_with fail
              go_roundw
              case rel => exact ⟨p + n, acc ++ [t.put p], by go_num, HN2.out⟩
              case measure => simp [intOf] <;> omega
    · have z1 : ¬ (p : Int) < (l.length : Int) := by omega
      have hres := HC.out.done (by omega)
      rw [HRR.out] at hres
      have HRES := Lib.hid hres
      clear hres
      go_wp2_with fail
      go_returns
      rw [HRES.out]
      exact ⟨u5, rfl, HC.out.own, by omega, HC.out.b⟩
end Go.Proofs.YtmkkocfclejpgaaDoor
