/-
  The machine is made; what is left to do, as its memory tells it; a value lies beside what holds nothing.
-/
import Derived.Test.YtpdfjdomjklkbaaGreatDoorK13
namespace Go.Proofs.YtpdfjdomjklkbaaGreatDoor
open Go.ChangeShapes Go.WideShapes Go.ChangeAt Go.RowKit Go.Sort
set_option linter.unusedVariables false
set_option linter.unusedSimpArgs false

def St.mk0 (input : List Str) (fuel : Int) : St := { err := 0, fault := 0, trace := [], input := input, fuel := fuel, refs := [], vals := [], frames := [], next := none }
theorem new_any (w : World) (input : List Str) (i : Value) (fuel : Int) (hi : InR w w.heap.size input i) :
    Calls Tryz.prog 25 #[i, .int .i64 fuel] w fun e w' => e = .returned (.pointer (some ⟨w.heap.size, 0, none⟩)) ∧ Rep w w.heap.size w.heap.size (St.mk0 input fuel) w' (.slice none 0 0) i (.slice none 0 0) (.slice none 0 0) (.slice none 0 0) (.pointer none) (.pointer none) [] [] [] ∧ Below w.heap.size w w' := by
  have hb : Below w.heap.size w (w.alloc (.cells #[.int .i64 0, .int .i64 0, .string ⟨#[]⟩, .slice none 0 0, i, .int .i64 fuel, .slice none 0 0, .slice none 0 0, .slice none 0 0, .pointer none, .pointer none] 67)) := (Below.refl _ _).alloc (Nat.le_refl _) _
  have hh := heap_new (w := w) (o := .cells #[.int .i64 0, .int .i64 0, .string ⟨#[]⟩, .slice none 0 0, i, .int .i64 fuel, .slice none 0 0, .slice none 0 0, .slice none 0 0, .pointer none, .pointer none] 67) rfl
  have HI := Lib.hid hi
  obtain ⟨A, c, rfl, h1, h2, h3⟩ := hi
  have HB := Lib.hid hb
  have HHH := Lib.hid hh
  clear hb hh h1 h2 h3
  go_enter Tryz.func25, Tryz.ntmps25
  go_wp2_with fail
  go_returns
  obtain ⟨A', c', e', h1, h2, h3⟩ := HI.out
  refine ⟨rfl, ⟨HHH.out, World.ownsRow_nil _ _ _ _, ⟨A', c', e', h1, h2.below HB.out, h3⟩, World.ownsRow_nil _ _ _ _, LR.nil, World.ownsRow_nil _ _ _ _, LR.nil, World.ownsRow_nil _ _ _ _, LR.nil, rfl, ⟨Nat.le_refl _, Nat.le_refl _⟩, ?_, ?_, ?_, ?_⟩, HB.out⟩ <;> (intro q hq; cases hq)
def lenV : Value → Nat
  | .slice _ n _ => n
  | _ => 0
/-- What is left to do, as the memory tells it. -/
def muW (mb : Nat) (w : World) : Nat := match w.heap[mb]? with
  | some (.cells cs _ _) => 3 * (intOf (cs[5]?.getD (.int .i64 0))).toNat + lenV (cs[8]?.getD (.int .i64 0)) + (match cs[9]? with | some (.pointer none) => 2 | _ => 1) + (if intOf (cs[0]?.getD (.int .i64 0)) = 0 then 1 else 0)
  | _ => 0
section
variable {w0 w : World} {B mb : Nat} {s : St} {t i r v f nx nm : Value} {rcs vcs fcs : List (List Value)}
theorem muW_eq (h : Rep w0 B mb s w t i r v f nx nm rcs vcs fcs) : muW mb w = mu s := by
  obtain ⟨A, c, e, _⟩ := own_cap h.fr
  have hnx := h.nxt
  unfold muW mu
  rw [h.hd]
  show 3 * s.fuel.toNat + lenV f + (match some nx with | some (.pointer none) => 2 | _ => 1) + (if s.err = 0 then 1 else 0) = _
  rw [e]
  show 3 * s.fuel.toNat + s.frames.length + (match some nx with | some (.pointer none) => 2 | _ => 1) + (if s.err = 0 then 1 else 0) = _
  cases hn : s.next with
  | none =>
    rw [hn] at hnx
    rw [show nx = .pointer none from hnx]
  | some p =>
    rw [hn] at hnx
    obtain ⟨eb, eo, e2, _⟩ := hnx
    rw [e2]
end
/-- A block that holds no value is no part of one. -/
theorem VR.avoid {w0 w : World} {P : Nat → Prop} {g R M : Nat} (hz : w.heap[g]? = some (.cells #[.int .i64 0, .int .i64 0, .string ⟨#[]⟩, .slice none 0 0, .slice none 0 0, .pointer none] 60)) {z : Val} {cs : List Value} (h : VR w0 w P z cs) : ∀ D, VG R M D z → VR w0 w (fun b => P b ∧ b ≠ g) z cs :=
  VR.rec (motive_1 := fun v c _ => ∀ D, VG R M D v → VR w0 w (fun b => P b ∧ b ≠ g) v c) (motive_2 := fun f u _ => (∀ self isRec a part env, f = some (.mk self isRec a part env) → ∀ p ∈ env, ∃ D, VG R M D p.2) → FR w0 w (fun b => P b ∧ b ≠ g) f u) (motive_3 := fun e u _ => (∀ p ∈ e, ∃ D, VG R M D p.2) → ER w0 w (fun b => P b ∧ b ≠ g) e u)
    (fun sort n s l f A c css u len rd bl cap sub fn ih1 ih2 D hg => by
      have hsub := hg.subs'
      refine .mk sort n s l f A c css u len rd (fun hn a ha => ⟨bl hn a ha, fun e => ?_⟩) cap (fun i v cs h1 h2 => ih1 i v cs h1 h2 D (hsub v (List.mem_of_getElem? h1))) (ih2 (fun self isRec a part env hf p hp => ⟨D, (hg.clo (self := self) (isRec := isRec) (a := a) (part := part) (env := env) hf).2 p hp⟩))
      have hv : Vs w0 w P l A css := ⟨rd, len, fun i v cs h1 h2 => sub i v cs h1 h2⟩
      obtain ⟨ab, ao, rfl⟩ := hv.addr hn
      cases ha
      have e' : ab = g := e
      subst e'
      obtain ⟨A6, k6, p6, _, g0, _, _, _, _, g5⟩ := hv.six 0 (List.getElem?_eq_getElem hn) ao (ao + 1) (ao + 2) (ao + 3) (ao + 4) (ao + 5) ⟨by omega, by omega, by omega, by omega, by omega, by omega⟩
      rw [Lib.cell_of_heap hz] at g0 g5
      have h5 := (Array.getElem?_eq_some_iff.1 g5).1
      have h0 : ao = 0 := by
        simp at h5
        omega
      subst h0
      have hs := (hsub _ (List.getElem_mem hn)).sort_
      have e2 : (Value.int .i64 0) = .int .i64 (l[0]).sort := Option.some.inj g0
      injection e2 with _ e2
      omega)
    (fun _ => .none)
    (fun self isRec arg part pb po env b u hb bl hp he ih hg => .some self isRec arg part pb po env b u hb ⟨bl, fun e => by
      subst e
      rw [hz] at hb
      have := congrArg (fun o => match o with | some (.cells cs _ _) => cs.size | _ => 0) hb
      simp at this⟩ hp (ih (fun p hp => hg self isRec arg part env rfl p hp)))
    (fun _ => .nil)
    (fun x v env b c0 c1 c2 c3 c4 c5 u hb bl hv he ih1 ih2 hg => .cons x v env b c0 c1 c2 c3 c4 c5 u hb ⟨bl, fun e => by
      subst e
      rw [hz] at hb
      have := congrArg (fun o => match o with | some (.cells cs _ _) => cs.size | _ => 0) hb
      simp at this⟩ (by obtain ⟨D, hD⟩ := hg (x, v) (List.mem_cons_self ..); exact ih1 D hD) (ih2 (fun p hp => hg p (List.mem_cons_of_mem _ hp)))) h
end Go.Proofs.YtpdfjdomjklkbaaGreatDoor
