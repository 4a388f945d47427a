/-
  The document's example; whether an image is sound, by the code.
-/
import Derived.Test.YthdnnlelmelegaaCodeGlue
import Derived.Test.YthdnnlelmelegaaCodes
namespace Go.Proofs.Ythdnnlelmelegaa
open Go.ChangeShapes Go.WideShapes Go.ChangeAt Go.RowKit
set_option linter.unusedVariables false

def CheckRes (m : AImg) : Value := if soundB m then .nilIface else .iface 36 (.int .i64 10)
theorem check_any (m : AImg) (w : World) (hm : m.In w) : Calls Try.prog 11 #[.agg #[.slice m.iA m.iN m.iC, .slice m.tA m.tN m.tC, .slice m.fA m.fN m.fC]] w fun e w' => e = .returned (CheckRes m) ∧ Below w.heap.size w w' := by
  have HD := Lib.hid (heldM_made w m hm)
  have hb1 : Below w.heap.size w (w.alloc (.cells #[.slice m.iA m.iN m.iC, .slice m.tA m.tN m.tC, .slice m.fA m.fN m.fC] 26)) := (Below.refl _ _).alloc (Nat.le_refl _) _
  go_enter Try.func11, Try.ntmps11
  go_wp2_with fail
  generalize (w.alloc (.cells #[.slice m.iA m.iN m.iC, .slice m.tA m.tN m.tC, .slice m.fA m.fN m.fC] 26)) = w1 at *
  refine (isSound_any w.heap.size m _ ⟨HD.out.m0, HD.out.m1, HD.out.m2, HD.out.hm⟩).mono ?_
  cases hs : soundB m with
  | false =>
    have e : CheckRes m = .iface 36 (.int .i64 10) := by unfold CheckRes; rw [hs]; rfl
    have HE := Lib.hid e
    clear hs e
    rintro e w2 ⟨rfl, hb2⟩
    go_wp2_with fail
    go_returns
    exact ⟨by rw [HE.out]; rfl, below_then hb1 hb2⟩
  | true =>
    have e : CheckRes m = .nilIface := by unfold CheckRes; rw [hs]; rfl
    have HE := Lib.hid e
    clear hs e
    rintro e w2 ⟨rfl, hb2⟩
    go_wp2_with fail
    go_returns
    exact ⟨by rw [HE.out]; rfl, below_then hb1 hb2⟩

theorem put_all (m : AImg) (w : World) (hm : m.In w) (hb : (putImg m.img).length ≤ 1099511627776) : Calls Try.prog 8 #[.agg #[.slice m.iA m.iN m.iC, .slice m.tA m.tN m.tC, .slice m.fA m.fN m.fC]] w fun e w' => PutRes m w e w' := by
  cases hs : soundB m with
  | true => exact put_yes m w hm hs hb
  | false => exact put_no m w hm hs
def readI : Img := ⟨[], [], [⟨2, 0, [⟨18, 0, []⟩, ⟨24, 0, [0]⟩]⟩]⟩
theorem read_any (w : World) : Calls Try.prog 14 #[] w fun e w' => ∃ m : AImg, e = .returned (.agg #[.slice m.iA m.iN m.iC, .slice m.tA m.tN m.tC, .slice m.fA m.fN m.fC]) ∧ m.In w' ∧ m.img = readI ∧ Below w.heap.size w w' := by
  go_enter Try.func14, Try.ntmps14
  go_wp2_with fail
  go_returns
  have o1 : ∀ (w0 : World), Rd (w0.alloc (.cells #[.int .i64 0] 3)) 1 (some ⟨w0.heap.size, 0, none⟩) 1 (i64s [0]) := fun w0 => Rd.lit w0 #[.int .i64 0] 3 rfl
  have o2 : ∀ (w0 : World) (x : AIns) (y : AIns), Rd (w0.alloc (.cells #[.int .i64 x.op, .int .i64 x.a, .slice x.A x.n x.c, .int .i64 y.op, .int .i64 y.a, .slice y.A y.n y.c] 47)) 3 (some ⟨w0.heap.size, 0, none⟩) 2 ([x, y].flatMap AIns.cells) := fun w0 x y => Rd.lit w0 #[.int .i64 x.op, .int .i64 x.a, .slice x.A x.n x.c, .int .i64 y.op, .int .i64 y.a, .slice y.A y.n y.c] 47 rfl
  have o3 : ∀ (w0 : World) (x : AFnc), Rd (w0.alloc (.cells #[.int .i64 x.regs, .int .i64 x.caps, .slice x.A x.n x.c] 44)) 3 (some ⟨w0.heap.size, 0, none⟩) 1 ([x].flatMap AFnc.cells) := fun w0 x => Rd.lit w0 #[.int .i64 x.regs, .int .i64 x.caps, .slice x.A x.n x.c] 44 rfl
  have q1 := fun o0 => o1 (w.alloc o0)
  simp only [World.size_alloc] at q1
  have q2 := fun o0 o1 => o2 ((w.alloc o0).alloc o1) ⟨18, 0, none, 0, 0, []⟩ ⟨24, 0, some ⟨w.heap.size + 1, 0, none⟩, 1, 1, [0]⟩
  simp only [World.size_alloc] at q2
  have q3 := fun o0 o1 o4 => o3 (((w.alloc o0).alloc o1).alloc o4) ⟨2, 0, some ⟨w.heap.size + 1 + 1, 0, none⟩, 2, 2, [⟨18, 0, none, 0, 0, []⟩, ⟨24, 0, some ⟨w.heap.size + 1, 0, none⟩, 1, 1, [0]⟩]⟩
  simp only [World.size_alloc] at q3
  have mx : ∀ n, n ≤ 2 → n ≤ maxLen := fun n h => by simp only [maxLen]; omega
  refine ⟨⟨none, 0, 0, [], none, 0, 0, [], some ⟨w.heap.size + 1 + 1 + 1, 0, none⟩, 1, 1, [⟨2, 0, some ⟨w.heap.size + 1 + 1, 0, none⟩, 2, 2, [⟨18, 0, none, 0, 0, []⟩, ⟨24, 0, some ⟨w.heap.size + 1, 0, none⟩, 1, 1, [0]⟩]⟩]⟩, rfl,
    ⟨Rd.nil _ _ _, ⟨Nat.le_refl _, mx 0 (by omega)⟩, by dsimp only; omega, (fun n hn => by cases hn), Rd.nil _ _ _, ⟨Nat.le_refl _, mx 0 (by omega)⟩, by dsimp only; omega, (fun n hn => by cases hn), q3 _ _ _, ⟨Nat.le_refl _, mx 1 (by omega)⟩, by dsimp only; omega, ?_⟩, rfl, ?_⟩
  · intro f hf
    simp only [List.mem_cons, List.not_mem_nil, or_false] at hf
    subst hf
    refine ⟨by unfold inRange; dsimp only; omega, by unfold inRange; dsimp only; omega, (q2 _ _).alloc _, ⟨Nat.le_refl _, mx 2 (by omega)⟩, by dsimp only; omega, ?_⟩
    intro x hx
    simp only [List.mem_cons, List.not_mem_nil, or_false] at hx
    rcases hx with rfl | rfl
    · exact ⟨by unfold inRange; dsimp only; omega, by unfold inRange; dsimp only; omega, Rd.nil _ _ _, ⟨Nat.le_refl _, mx 0 (by omega)⟩, by dsimp only; omega, (fun n hn => by cases hn)⟩
    · exact ⟨by unfold inRange; dsimp only; omega, by unfold inRange; dsimp only; omega, ((q1 _).alloc _).alloc _, ⟨Nat.le_refl _, mx 1 (by omega)⟩, by dsimp only; omega, (fun n hn => by simp only [List.mem_cons, List.not_mem_nil, or_false] at hn; subst hn; unfold inRange; omega)⟩
  · exact ((((Below.refl _ _).alloc (Nat.le_refl _) _).alloc (by simp) _).alloc (by simp; omega) _).alloc (by simp; omega) _

theorem sound_read {w : World} {m : AImg} (h : m.In w) (e : m.img = readI) : soundB m = true := by
  rw [← soundB_bare, h.canon, e]
  decide
theorem len_read : 0 < (putImg readI).length ∧ (putImg readI).length ≤ 1000 := by
  have h0 := num_len 0 (by unfold inRange; omega)
  have h1 := num_len 1 (by unfold inRange; omega)
  have h2 := num_len 2 (by unfold inRange; omega)
  have h3 := num_len 18 (by unfold inRange; omega)
  have h4 := num_len 24 (by unfold inRange; omega)
  have h5 := List.length_pos_iff.2 (num_ne 0)
  have e : putImg readI = num 0 ++ ([] ++ (num 0 ++ [])) ++ (num 1 ++ ((num 2 ++ num 0 ++ num 2 ++ ((num 18 ++ num 0 ++ num 0 ++ []) ++ ((num 24 ++ num 0 ++ num 1 ++ (num 0 ++ [])) ++ []))) ++ [])) := by
    simp [putImg, readI, putFnc, putIns]
  rw [e]
  simp only [List.length_append, List.length_nil]
  omega

def emptyImg : AImg := ⟨none, 0, 0, [], none, 0, 0, [], none, 0, 0, []⟩
theorem empty_in (w : World) : emptyImg.In w := by
  have mx : 0 ≤ maxLen := Nat.zero_le _
  exact ⟨Rd.nil _ _ _, ⟨Nat.le_refl _, mx⟩, Nat.zero_le _, (fun n hn => by cases hn), Rd.nil _ _ _, ⟨Nat.le_refl _, mx⟩, Nat.zero_le _, (fun n hn => by cases hn), Rd.nil _ _ _, ⟨Nat.le_refl _, mx⟩, Nat.zero_le _, (fun n hn => by cases hn)⟩
theorem check_empty (w : World) : Calls Try.prog 11 #[.agg #[.slice none 0 0, .slice none 0 0, .slice none 0 0]] w fun e w' => e = .returned (.iface 36 (.int .i64 10)) ∧ Below w.heap.size w w' := by
  have h := check_any emptyImg w (empty_in w)
  rw [show CheckRes emptyImg = .iface 36 (.int .i64 10) from by unfold CheckRes; rw [show soundB emptyImg = false by decide]; rfl] at h
  exact h

theorem check_sound (m : AImg) (w : World) (hm : m.In w) (e : m.img = readI) : Calls Try.prog 11 #[.agg #[.slice m.iA m.iN m.iC, .slice m.tA m.tN m.tC, .slice m.fA m.fN m.fC]] w fun e w' => e = .returned .nilIface ∧ Below w.heap.size w w' := by
  have h := check_any m w hm
  rw [show CheckRes m = .nilIface from by unfold CheckRes; rw [sound_read hm e]; rfl] at h
  exact h
theorem same_true (x y : AImg) (w : World) (hx : x.In w) (hy : y.In w) (e : x.img = y.img) : Calls Try.prog 9 #[.agg #[.slice x.iA x.iN x.iC, .slice x.tA x.tN x.tC, .slice x.fA x.fN x.fC], .agg #[.slice y.iA y.iN y.iC, .slice y.tA y.tN y.tC, .slice y.fA y.fN y.fC]] w fun e w' => e = .returned (.bool true) ∧ Below w.heap.size w w' := by
  have h := same_any x y w hx hy
  rw [sameImg_img e] at h
  exact h
/-- What holds of the world while the example is played. -/
structure UpAt (w : World) (g : Nat) (m : AImg) (wx : World) : Prop where
  h : HeldM wx g m
  b : Below w.heap.size w wx
theorem UpAt.below {w wx wy : World} {g : Nat} {m : AImg} (h : UpAt w g m wx) (hb : Below wx.heap.size wx wy) : UpAt w g m wy := ⟨h.h.below hb, below_then h.b hb⟩
end Go.Proofs.Ythdnnlelmelegaa
