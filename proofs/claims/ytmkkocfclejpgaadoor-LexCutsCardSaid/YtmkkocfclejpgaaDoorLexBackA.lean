/-
  LexBack holds: for every input the law returns true, and each argument reads afterwards as it read before; the tied variables read as the program's text lays them. No other condition.
-/
import Derived.Test.YtmkkocfclejpgaaDoorLexUp
import Derived.Test.YtmkkocfclejpgaaDoorLexQ
import Derived.Lib.ConvBytes
import Derived.Lib.SmallJoins
namespace Go.Proofs.YtmkkocfclejpgaaDoor
open Go.ChangeShapes Go.WideShapes Go.ChangeAt Go.RowKit
set_option linter.unusedVariables false
set_option linter.unusedSimpArgs false

theorem toks_at : ∀ (ts : List Tok) (k : Nat) (h : k < ts.length), (toks ts)[k * 4]? = some (.int .i64 ts[k].kind) ∧ (toks ts)[k * 4 + 1]? = some (.int .i64 (ts[k].place : Int)) ∧ (toks ts)[k * 4 + 2]? = some (.int .i64 ts[k].n) ∧ (toks ts)[k * 4 + 3]? = some (.string (bstr ts[k].s))
  | [], k, h => by cases h
  | t :: r, 0, h => by simp [toks, Tok.cells]
  | t :: r, k + 1, h => by
    have ih := toks_at r k (by simpa using h)
    have e : ∀ j, (toks (t :: r))[(k + 1) * 4 + j]? = (toks r)[k * 4 + j]? := fun j => by
      have : toks (t :: r) = t.cells ++ toks r := by simp [toks]
      rw [this, List.getElem?_append_right (by simp [Tok.cells]; omega)]
      congr 1
      simp [Tok.cells]; omega
    refine ⟨?_, ?_, ?_, ?_⟩
    · have := e 0; simp only [Nat.add_zero] at this; rw [this]; exact ih.1
    · rw [e 1]; exact ih.2.1
    · rw [e 2]; exact ih.2.2.1
    · rw [e 3]; exact ih.2.2.2

theorem cut_len (A : Option Addr) (l : Str) (n cp : Nat) (hn : l.length = n) (w : World) (hL : Lay w) (hr : Rd w 1 A n (u8s l)) (hcap : n ≤ cp) (hm : n ≤ 4000) :
    Calls Tryd.prog 7 #[.slice A n cp] w fun e w' => CutRes (cutS l 0) w e w' := by
  subst hn
  exact cut_any A l cp w hL hr hcap hm

/- A text as bytes of new memory. -/
set_option maxRecDepth 100000 in
theorem conv_text (q : Str) (w : World) (hq : 0 < q.length) : ∃ c, q.length ≤ c ∧ (convert 9 22 (.string (bstr q))).run Tryd.prog w = .ok (.slice (some ⟨w.heap.size, 0, none⟩) q.length c) (Lib.bytesWorld w 5 (bstr q)) ∧ Rd (Lib.bytesWorld w 5 (bstr q)) 1 (some ⟨w.heap.size, 0, none⟩) q.length (u8s q) := by
  have h := Lib.run_convert_string_bytes (P := Tryd.prog) w 9 22 5 (bstr q) Tryd.underlying9 Tryd.underlying22 Tryd.underlying5
  have hz := bstr_size q
  refine ⟨grownCap w (bstr q).size 0 5, ?_, by rw [h, hz], ⟨by rw [u8s_length, Nat.mul_one], fun _ => ⟨_, rfl, fun j u hu => ?_⟩⟩⟩
  · have := grownCap_ge w (bstr q).size 0 5
    omega
  · rw [Addr.add_lit, Nat.zero_add]
    have hj : j < q.length := by
      have := (List.getElem?_eq_some_iff.1 hu).1
      rwa [u8s_length] at this
    rw [Lib.bytesWorld_cell w 5 (bstr q) j (by omega), bstr_data]
    rw [u8s_at q j hj] at hu
    injection hu with hu
    rw [← hu]
    simp [List.getD, hj]

/-- A token cut out of the bytes. -/
structure Again (l : Str) (ts : List Tok) (k pl to : Nat) (kd n : Int) (s : Str) : Prop where
  lt : pl < to
  le : to ≤ l.length
  cut : cutS ((l.drop pl).take (to - pl)) 0 = .ok [⟨kd, 0, n, s⟩]
theorem again_of {l : Str} {ts : List Tok} (h : cutS l 0 = .ok ts) (k : Nat) (hk : k < ts.length) : Again l ts k ts[k].place (firstAt l 0 (ts.drop (k + 1))) ts[k].kind ts[k].n ts[k].s := by
  obtain ⟨_, h1, h2, h3⟩ := cut_again l.length l 0 ts (Nat.le_refl _) h k hk
  exact ⟨h1, by omega, by simpa using h3⟩
theorem first_next {l : Str} {ts : List Tok} {k : Nat} (h : k + 1 < ts.length) : firstAt l 0 (ts.drop (k + 1)) = ts[k + 1].place := by
  rw [List.drop_eq_getElem_cons h]; rfl
theorem first_last {l : Str} {ts : List Tok} {k : Nat} (h : ts.length ≤ k + 1) : firstAt l 0 (ts.drop (k + 1)) = l.length := by
  rw [List.drop_of_length_le h]; simp [firstAt]

/-- The four cells of a token. -/
structure T4 (w : World) (b o : Nat) (t : Tok) : Prop where
  c0 : w.cell? ⟨b, o, none⟩ = some (.int .i64 t.kind)
  c1 : w.cell? ⟨b, o + 1, none⟩ = some (.int .i64 (t.place : Int))
  c2 : w.cell? ⟨b, o + 2, none⟩ = some (.int .i64 t.n)
  c3 : w.cell? ⟨b, o + 3, none⟩ = some (.string (bstr t.s))
theorem Rd.tok {w : World} {A : Option Addr} {n : Nat} {ts : List Tok} (h : Rd w 4 A n (toks ts)) {k : Nat} (hk : k < ts.length) : ∃ b o, A = some ⟨b, o, none⟩ ∧ b < w.heap.size ∧ ∀ j (hj : j < ts.length), T4 w b (o + j * 4) ts[j] := by
  obtain ⟨b, o, rfl, hb, hc⟩ := h.base (by rw [toks_length]; omega)
  refine ⟨b, o, rfl, hb, fun j hj => ?_⟩
  obtain ⟨h0, h1, h2, h3⟩ := toks_at ts j hj
  exact ⟨hc _ _ h0, by have := hc _ _ h1; rwa [← Nat.add_assoc] at this, by have := hc _ _ h2; rwa [← Nat.add_assoc] at this, by have := hc _ _ h3; rwa [← Nat.add_assoc] at this⟩
theorem T4.below {w w' : World} {b o : Nat} {t : Tok} (h : T4 w b o t) (hb : Below w.heap.size w w') : T4 w' b o t := ⟨cell_below hb h.c0, cell_below hb h.c1, cell_below hb h.c2, cell_below hb h.c3⟩
end Go.Proofs.YtmkkocfclejpgaaDoor
