/-
  All tokens, by the code.
-/
import Derived.Test.YtaglmmcjhlehjaaDoorLexG
namespace Go.Proofs.YtaglmmcjhlehjaaDoor
open Go.ChangeShapes Go.WideShapes Go.ChangeAt Go.RowKit
set_option linter.unusedVariables false
set_option linter.unusedSimpArgs false

def Tok.cells (t : Tok) : List Value := [.int .i64 t.kind, .int .i64 (t.place : Int), .int .i64 t.n, .string (bstr t.s)]
def toks (l : List Tok) : List Value := l.flatMap Tok.cells
theorem toks_append (a b : List Tok) : toks (a ++ b) = toks a ++ toks b := by simp [toks]
theorem toks_one (t : Tok) : toks [t] = t.cells := by simp [toks]
theorem toks_length (l : List Tok) : (toks l).length = l.length * 4 := by
  induction l with
  | nil => rfl
  | cons t r ih => simp only [toks, List.flatMap_cons, List.length_append, List.length_cons] at ih ⊢; rw [ih]; simp [Tok.cells]; omega
theorem elTok : ElemTy Tryd.prog 79 83 (.agg #[.int .i64 0, .int .i64 0, .int .i64 0, .string ⟨#[]⟩]) 4 40 := ⟨Tryd.underlying79, by kernel_rfl, rfl, by decide, by decide⟩

theorem four_one (a b c : Int) (x : ByteArray) : ∀ u ∈ (#[Value.int .i64 a, .int .i64 b, .int .i64 c, .string x] : Array Value).toList, u.oneCell' = true := by
  intro u hu; simp at hu; rcases hu with rfl | rfl | rfl | rfl <;> rfl

theorem tw_stop {p : UInt8 → Bool} : ∀ (l : Str) (h : (l.takeWhile p).length < l.length), p l[(l.takeWhile p).length] = false
  | [], h => by simp at h
  | c :: r, h => by
    cases hc : p c with
    | false =>
      have e : ((c :: r).takeWhile p).length = 0 := by simp [hc]
      simp [hc]
    | true =>
      have e : ((c :: r).takeWhile p).length = (r.takeWhile p).length + 1 := by simp [hc]
      have h2 : (r.takeWhile p).length < r.length := by rw [e] at h; simpa using h
      have := tw_stop r h2
      simp only [e, List.getElem_cons_succ]
      exact this
theorem endB_stop {p : UInt8 → Bool} (l : Str) (k : Nat) (hk : k ≤ l.length) (h : endB p l k < l.length) : p l[endB p l k] = false := by
  unfold endB at h ⊢
  have h2 : ((l.drop k).takeWhile p).length < (l.drop k).length := by rw [List.length_drop]; omega
  have := tw_stop (l.drop k) h2
  rw [List.getElem_drop] at this
  exact this
theorem cutS_end (l : Str) (k : Nat) : cutS (l.drop k) k = cutS (l.drop (endB spcB l k)) (endB spcB l k) := by
  rw [cutS_skip (l.drop k) k, List.drop_drop]; rfl

/-- What all tokens come to. -/
def CutRes (r : CutR) (w : World) (e : Ending) (w' : World) : Prop :=
  match r with
  | .ok ts => ∃ v, e = .returned (.tuple #[v, .nilIface]) ∧ w'.ownsRow w.heap.size 83 4 v ts.length (toks ts) ∧ ts.length ≤ 4000 ∧ Below w.heap.size w w'
  | .bad p => ∃ v, e = .returned (.tuple #[.slice none 0 0, v]) ∧ ErrAt w.heap.size w' v p ∧ Below w.heap.size w w'

/-- What stands while tokens are cut. -/
structure CL (w : World) (l : Str) (p : Nat) (acc : List Tok) (z : Value) (wr : World) : Prop where
  hi : p ≤ l.length
  inv : cutS l 0 = (cutS (l.drop p) p).pre acc
  stop : ∀ h : p < l.length, spcB l[p] = false
  own : wr.ownsRow w.heap.size 83 4 z acc.length (toks acc)
  b : Below w.heap.size w wr
  len : acc.length ≤ p
theorem CL.next {w wr : World} {l : Str} {p : Nat} {acc : List Tok} {z : Value} (h : CL w l p acc z wr) (hp : p < l.length) (t : Tk) (n : Nat) (ho : one (l.drop p) = .ok t n) :
    p + n ≤ l.length ∧ 0 < n ∧ cutS l 0 = (cutS (l.drop (endB spcB l (p + n))) (endB spcB l (p + n))).pre (acc ++ [t.put p]) := by
  obtain ⟨h0, h1, _⟩ := one_front _ _ _ ho
  rw [List.length_drop] at h1
  refine ⟨by omega, h0, ?_⟩
  have hd := List.drop_eq_getElem_cons hp
  rw [h.inv, ← cutS_end, hd, cutS_ok l[p] _ p n t (h.stop hp) (by rw [← hd]; exact ho), ← hd, List.drop_drop, CutR.pre_pre]
theorem CL.bad {w wr : World} {l : Str} {p : Nat} {acc : List Tok} {z : Value} (h : CL w l p acc z wr) (hp : p < l.length) (o : Nat) (ho : one (l.drop p) = .bad o) : cutS l 0 = .bad (p + o) := by
  have hd := List.drop_eq_getElem_cons hp
  rw [h.inv, hd, cutS_bad l[p] _ p o (h.stop hp) (by rw [← hd]; exact ho)]; rfl
theorem CL.done {w wr : World} {l : Str} {p : Nat} {acc : List Tok} {z : Value} (h : CL w l p acc z wr) (hp : l.length ≤ p) : cutS l 0 = .ok acc := by
  rw [h.inv, List.drop_of_length_le hp, cutS_nil]; simp [CutR.pre]

theorem cut_long (A : Option Addr) (l : Str) (cp : Nat) (w : World) (h : 4000 < l.length) (hm : l.length ≤ maxLen) :
    Calls Tryd.prog 47 #[.slice A l.length cp] w fun e w' => e = .returned (.tuple #[.slice none 0 0, .iface 33 (.int .i64 6)]) ∧ Below w.heap.size w w' := by
  unfold maxLen at hm
  go_enter Tryd.func47, Tryd.ntmps47
  go_wp2_with fail
  go_returns
  exact ⟨rfl, Below.refl _ _⟩

set_option maxRecDepth 100000 in
set_option maxHeartbeats 2000000 in
theorem cut_any (A : Option Addr) (l : Str) (cp : Nat) (w : World) (hL : Lay w) (hr : Rd w 1 A l.length (u8s l)) (hcap : l.length ≤ cp) (hm : l.length ≤ 4000) :
    Calls Tryd.prog 47 #[.slice A l.length cp] w fun e w' => CutRes (cutS l 0) w e w' := by
  have HR := Lib.hid hr
  have HL := Lib.hid hL
  obtain ⟨r, hrr⟩ : ∃ r, cutS l 0 = r := ⟨_, rfl⟩
  have HRR := Lib.hid hrr
  rw [hrr]
  have he := endB_le spcB l 0 (by omega)
  have hst := endB_stop (p := spcB) l 0 (by omega)
  have hin := cutS_end l 0
  have H0 := Lib.hid (And.intro he.2 (And.intro hst hin))
  clear hr hL hrr he hst hin
  go_enter Tryd.func47, Tryd.ntmps47
  go_wp2_with fail
  refine (afterSpace_any A l cp 0 w HR.out (by omega) (by omega)).mono ?_
  rintro e w1 ⟨rfl, rfl⟩
  go_wp2_with fail
  go_loopw [4, 5] (fun z i wr => ∃ (p : Nat) (acc : List Tok), i = .int .i64 p ∧ CL w l p acc z wr) (fun _ i _ => l.length - (intOf i).toNat)
  case atStart =>
    refine ⟨_, [], rfl, ⟨H0.out.1, ?_, fun h => H0.out.2.1 h, World.ownsRow_nil _ _ _ _, Below.refl _ _, by simp⟩⟩
    rw [CutR.pre_nil]
    exact H0.out.2.2
  case round =>
    obtain ⟨p, acc, rfl, hc⟩ := hrel
    have HC := Lib.hid hc
    have hhi := hc.hi
    have hln := hc.len
    clear hc H0
    have z0 : (0 : Int) ≤ (p : Int) := by omega
    by_cases hp : p < l.length
    · have z1 : (p : Int) < (l.length : Int) := by omega
      go_wp2_with fail
      refine (next_any A l cp p wr (HL.out.below HC.out.b) (HR.out.below HC.out.b) hp hcap (by omega)).mono ?_
      rintro e w2 ho
      cases hone : one (l.drop p) with
      | bad o =>
        rw [hone] at ho
        obtain ⟨v, rfl, hv, hb2⟩ := ho
        have hres := HC.out.bad hp o hone
        rw [HRR.out] at hres
        obtain ⟨g, hg, rfl, h1, h2⟩ := hv
        have HV := Lib.hid (And.intro hg (And.intro h1 (And.intro h2 hb2)))
        have HRES := Lib.hid hres
        unfold tok0
        clear hg h1 h2 hb2 hres hone
        go_wp2_with fail
        go_returns
        rw [HRES.out]
        exact ⟨_, rfl, ⟨g, Nat.le_trans HC.out.b.size HV.out.1, rfl, cell_alloc HV.out.2.1, cell_alloc HV.out.2.2.1⟩, (below_then HC.out.b HV.out.2.2.2).alloc (Nat.le_trans HC.out.b.size HV.out.2.2.2.size) _⟩
      | ok t n =>
        rw [hone] at ho
        obtain ⟨rfl, hb2⟩ := ho
        obtain ⟨hpn, hn0, hinv⟩ := HC.out.next hp t n hone
        have HB2 := Lib.hid hb2
        have HIN := Lib.hid hinv
        unfold tokV
        clear hb2 hinv hone
        have hsz : w.heap.size ≤ w2.heap.size := Nat.le_trans HC.out.b.size HB2.out.size
        have HOW := Lib.hid (((own_below HC.out.own HB2.out).alloc (.cells #[.int .i64 (t.put p).kind, .int .i64 ((t.put p).place : Int), .int .i64 (t.put p).n, .string (bstr (t.put p).s)] 83)).alloc (.cells #[.int .i64 (t.put p).kind, .int .i64 ((t.put p).place : Int), .int .i64 (t.put p).n, .string (bstr (t.put p).s)] 83))
        have hrd := Rd.lit (size := 4) (n := 1) (w2.alloc (.cells #[.int .i64 (t.put p).kind, .int .i64 ((t.put p).place : Int), .int .i64 (t.put p).n, .string (bstr (t.put p).s)] 83)) #[.int .i64 (t.put p).kind, .int .i64 ((t.put p).place : Int), .int .i64 (t.put p).n, .string (bstr (t.put p).s)] 83 rfl (fr := (0, 0))
        rw [World.size_alloc] at hrd
        have HRD := Lib.hid hrd
        have HB3 := Lib.hid (show Below w.heap.size w ((w2.alloc (.cells #[.int .i64 (t.put p).kind, .int .i64 ((t.put p).place : Int), .int .i64 (t.put p).n, .string (bstr (t.put p).s)] 83)).alloc (.cells #[.int .i64 (t.put p).kind, .int .i64 ((t.put p).place : Int), .int .i64 (t.put p).n, .string (bstr (t.put p).s)] 83)) from ((below_then HC.out.b HB2.out).alloc hsz _).alloc (by rw [World.size_alloc]; omega) _)
        clear hrd
        go_wp2_with (at_builtin; refine wpList_app elTok _ rfl (.tmp 29) (.tmp 31) rfl w.heap.size u4 acc.length _ rfl HOW.out (some ⟨w2.heap.size + 1, 0, none⟩) 1 1 _ rfl HRD.out (four_one _ _ _ _) (by omega) HB3.out.size ?_; intro v' w6 hown6 hb6 hg6 ho6)
        have hb7 : Below w.heap.size w w6 := HB3.out.trans hb6
        refine (afterSpace_any A l cp (p + n) w6 (HR.out.below hb7) hpn (by omega)).mono ?_
        rintro e w7 ⟨rfl, rfl⟩
        have he := endB_le spcB l (p + n) hpn
        have hst := endB_stop (p := spcB) l (p + n) hpn
        have hown7 : w6.ownsRow w.heap.size 83 4 v' (acc ++ [t.put p]).length (toks (acc ++ [t.put p])) := by
          rw [toks_append, toks_one, List.length_append]; exact hown6
        have HN := Lib.hid (show CL w l (endB spcB l (p + n)) (acc ++ [t.put p]) v' w6 from ⟨he.2, HIN.out, fun h => hst h, hown7, hb7, by simp; omega⟩)
        have hgt : p < endB spcB l (p + n) := by omega
        have hge : endB spcB l (p + n) ≤ l.length := he.2
        clear hown6 hb6 hg6 ho6 hb7 he hst hown7
        generalize endB spcB l (p + n) = en at *
        go_wp2_with fail
        go_roundw
        case rel => exact ⟨en, acc ++ [t.put p], rfl, HN.out⟩
        case measure => simp [intOf] <;> omega
    · have z1 : ¬ (p : Int) < (l.length : Int) := by omega
      have hres := HC.out.done (by omega)
      rw [HRR.out] at hres
      have HRES := Lib.hid hres
      clear hres
      go_wp2_with fail
      go_returns
      rw [HRES.out]
      exact ⟨u4, rfl, HC.out.own, by omega, HC.out.b⟩
end Go.Proofs.YtaglmmcjhlehjaaDoor
