/-
  Unlike expressions have unlike texts, and alike ones alike ones. About no program.
-/
import Derived.Test.YtaglmmcjhlehjaaDoorShX
namespace Go.Proofs.YtaglmmcjhlehjaaDoor
open Go.RowKit
set_option linter.unusedVariables false
set_option linter.unusedSimpArgs false

def WW (x : Ex) : Prop := ∀ y : Ex, y.Ok → ∀ u v : Str, FolW u → FolW v → x.sh ++ u = y.sh ++ v → x.eqv y ∧ u = v
def PP (x : Ex) : Prop := ∀ y : Ex, y.Ok → ∀ u v : Str, FolP u → FolP v → x.pa ++ u = y.pa ++ v → x.eqv y ∧ u = v
theorem fw {a b c : Str} (h : a ++ b = a ++ c) : b = c := List.append_cancel_left h
theorem fol32 {u : Str} : FolP (32 :: u) := folP_cons (by decide)

/-! ### Records -/
def FR : List Str → List Str → Str
  | l :: ls, t :: ts => 44 :: 32 :: (l ++ (32 :: 61 :: 32 :: (t ++ FR ls ts)))
  | _, _ => []
def FF : List Str → List Str → Str
  | l :: ls, t :: ts => l ++ (32 :: 61 :: 32 :: (t ++ FR ls ts))
  | _, _ => []
def tailTo (lb : List Str) (T : Nat → Str) : Nat → Str
  | 0 => []
  | k + 1 => tailTo lb T k ++ 44 :: 32 :: (lb.getD k [] ++ 32 :: 61 :: 32 :: T k)
theorem fieldsTo_peel (x : Str) (lb : List Str) (T : Nat → Str) : ∀ k, fieldsTo (x :: lb) T (k + 1) = x ++ (32 :: 61 :: 32 :: (T 0 ++ tailTo lb (fun i => T (i + 1)) k))
  | 0 => by simp [fieldsTo, tailTo]
  | k + 1 => by
    rw [show fieldsTo (x :: lb) T (k + 1 + 1) = fieldsTo (x :: lb) T (k + 1) ++ (if k + 1 = 0 then [] else [44, 32]) ++ (x :: lb).getD (k + 1) [] ++ [32, 61, 32] ++ T (k + 1) from rfl, fieldsTo_peel x lb T k, if_neg (by omega)]
    simp [tailTo, List.append_assoc]
theorem tailTo_peel (x : Str) (lb : List Str) (T : Nat → Str) : ∀ k, tailTo (x :: lb) T (k + 1) = 44 :: 32 :: (x ++ (32 :: 61 :: 32 :: (T 0 ++ tailTo lb (fun i => T (i + 1)) k)))
  | 0 => by simp [tailTo]
  | k + 1 => by
    rw [show tailTo (x :: lb) T (k + 1 + 1) = tailTo (x :: lb) T (k + 1) ++ 44 :: 32 :: ((x :: lb).getD (k + 1) [] ++ 32 :: 61 :: 32 :: T (k + 1)) from rfl, tailTo_peel x lb T k]
    simp [tailTo, List.append_assoc]
theorem tailTo_FR : ∀ (lb ts : List Str), lb.length = ts.length → tailTo lb (fun i => ts.getD i []) lb.length = FR lb ts
  | [], [], _ => rfl
  | x :: lb, t :: ts, h => by
    rw [List.length_cons, tailTo_peel]
    simp only [List.getD_cons_zero, List.getD_cons_succ, FR]
    rw [tailTo_FR lb ts (by simpa using h)]
  | [], t :: ts, h => by simp at h
  | x :: lb, [], h => by simp at h
theorem fieldsTo_FF : ∀ (lb ts : List Str), lb.length = ts.length → fieldsTo lb (fun i => ts.getD i []) lb.length = FF lb ts
  | [], [], _ => rfl
  | x :: lb, t :: ts, h => by
    rw [List.length_cons, fieldsTo_peel]
    simp only [List.getD_cons_zero, List.getD_cons_succ, FF]
    rw [tailTo_FR lb ts (by simpa using h)]
  | [], t :: ts, h => by simp at h
  | x :: lb, [], h => by simp at h
theorem folW_fr (ls ts : List Str) (u : Str) : FolW (FR ls ts ++ 125 :: u) := by
  cases ls with
  | nil => simp only [FR, List.nil_append]; exact folW_brace u
  | cons l ls =>
    cases ts with
    | nil => simp only [FR, List.nil_append]; exact folW_brace u
    | cons t ts => simp only [FR, List.cons_append]; exact folW_comma _
theorem FR_inj : ∀ (ls : List Str) (xs : List Ex) (ms : List Str) (ys : List Ex) (u v : Str), ls.length = xs.length → ms.length = ys.length → (∀ s ∈ ls, tokB s 1 = true) → (∀ s ∈ ms, tokB s 1 = true) → (∀ x ∈ xs, WW x) → (∀ y ∈ ys, y.Ok) →
    FR ls (xs.map Ex.sh) ++ 125 :: u = FR ms (ys.map Ex.sh) ++ 125 :: v → ls = ms ∧ eqvL xs ys ∧ u = v
  | [], [], [], [], u, v, _, _, _, _, _, _, e => by simp [FR] at e; exact ⟨rfl, by simp [eqvL], e⟩
  | [], [], m :: ms, y :: ys, u, v, _, _, _, _, _, _, e => by simp [FR] at e
  | l :: ls, x :: xs, [], [], u, v, _, _, _, _, _, _, e => by simp [FR] at e
  | l :: ls, x :: xs, m :: ms, y :: ys, u, v, h1, h2, t1, t2, hw, hy, e => by
    simp only [FR, List.map_cons, List.cons_append, List.append_assoc, List.cons.injEq, true_and] at e
    obtain ⟨e1, e2⟩ := run_eq (tok1 (t1 l (by simp))).2.1 (tok1 (t2 m (by simp))).2.1 fol32 fol32 e
    simp only [List.cons.injEq, true_and] at e2
    obtain ⟨e3, e4⟩ := hw x (by simp) y (hy y (by simp)) _ _ (folW_fr _ _ _) (folW_fr _ _ _) e2
    obtain ⟨e5, e6, e7⟩ := FR_inj ls xs ms ys u v (by simpa using h1) (by simpa using h2) (fun s hs => t1 s (by simp [hs])) (fun s hs => t2 s (by simp [hs])) (fun x hx => hw x (by simp [hx])) (fun y hy' => hy y (by simp [hy'])) e4
    exact ⟨by rw [e1, e5], ⟨e3, e6⟩, e7⟩
  | [], x :: xs, _, _, _, _, h, _, _, _, _, _, _ => by simp at h
  | l :: ls, [], _, _, _, _, h, _, _, _, _, _, _ => by simp at h
  | [], [], [], y :: ys, _, _, _, h, _, _, _, _, _ => by simp at h
  | [], [], m :: ms, [], _, _, _, h, _, _, _, _, _ => by simp at h
  | l :: ls, x :: xs, [], y :: ys, _, _, _, h, _, _, _, _, _ => by simp at h
  | l :: ls, x :: xs, m :: ms, [], _, _, _, h, _, _, _, _, _ => by simp at h

/-! ### Matches -/
def AR : List Str → List Str → List Str → Str
  | t :: ts, n :: ns, s :: ss => 32 :: 124 :: 32 :: (t ++ 32 :: (n ++ 32 :: 45 :: 62 :: 32 :: (s ++ AR ts ns ss)))
  | _, _, _ => []
theorem armsTo_peel (x y : Str) (lb nm : List Str) (T : Nat → Str) : ∀ k, armsTo (x :: lb) (y :: nm) T (k + 1) = 32 :: 124 :: 32 :: (x ++ 32 :: (y ++ 32 :: 45 :: 62 :: 32 :: (T 1 ++ armsTo lb nm (fun i => T (i + 1)) k)))
  | 0 => by simp [armsTo]
  | k + 1 => by
    rw [show armsTo (x :: lb) (y :: nm) T (k + 1 + 1) = armsTo (x :: lb) (y :: nm) T (k + 1) ++ [32, 124, 32] ++ (x :: lb).getD (k + 1) [] ++ [32] ++ (y :: nm).getD (k + 1) [] ++ [32, 45, 62, 32] ++ T (k + 1 + 1) from rfl, armsTo_peel x y lb nm T k]
    simp [armsTo, List.append_assoc]
theorem armsTo_AR : ∀ (lb nm ss : List Str) (T : Nat → Str), lb.length = nm.length → lb.length = ss.length → (∀ i, i < lb.length → T (i + 1) = ss.getD i []) → armsTo lb nm T lb.length = AR lb nm ss
  | [], [], [], _, _, _, _ => rfl
  | x :: lb, y :: nm, s :: ss, T, h1, h2, h3 => by
    rw [List.length_cons, armsTo_peel]
    simp only [AR]
    rw [h3 0 (by simp), armsTo_AR lb nm ss (fun i => T (i + 1)) (by simpa using h1) (by simpa using h2) (fun i hi => by rw [h3 (i + 1) (by simpa using hi)]; rfl)]
    rfl
  | [], y :: nm, _, _, h, _, _ => by simp at h
  | x :: lb, [], _, _, h, _, _ => by simp at h
  | [], [], s :: ss, _, _, h, _ => by simp at h
  | x :: lb, y :: nm, [], _, _, h, _ => by simp at h
def zkey (w : Str) : Nat := match w with
  | 32 :: 124 :: 32 :: c :: _ => if highB c = true then 1 else 2
  | _ => 0
theorem folW_ar (ts ns ss : List Str) (Z : Str) (h : FolW Z) : FolW (AR ts ns ss ++ Z) := by
  cases ts with
  | nil => simpa [AR] using h
  | cons t ts =>
    cases ns with
    | nil => simpa [AR] using h
    | cons n ns =>
      cases ss with
      | nil => simpa [AR] using h
      | cons s ss => simp only [AR, List.cons_append]; exact folW_bar _
theorem zkey_arm {t u : Str} (h : tokB t 3 = true) : zkey (32 :: 124 :: 32 :: (t ++ u)) = 1 := by
  obtain ⟨⟨c, r, rfl, hc⟩, _⟩ := tok3 h
  simp [zkey, hc]
theorem zkey_rest {t u : Str} (h : tokB t 1 = true) : zkey (32 :: 124 :: 32 :: (t ++ u)) = 2 := by
  obtain ⟨⟨c, r, rfl, hc⟩, _⟩ := tok1 h
  have := (low_dig hc).2.1
  simp [zkey, this]
theorem AR_inj : ∀ (ts ns : List Str) (xs : List Ex) (ts' ns' : List Str) (ys : List Ex) (Z Z' : Str), ts.length = ns.length → ts.length = xs.length → ts'.length = ns'.length → ts'.length = ys.length →
    (∀ s ∈ ts, tokB s 3 = true) → (∀ s ∈ ts', tokB s 3 = true) → (∀ s ∈ ns, tokB s 1 = true) → (∀ s ∈ ns', tokB s 1 = true) → (∀ x ∈ xs, WW x) → (∀ y ∈ ys, y.Ok) → FolW Z → FolW Z' → zkey Z ≠ 1 → zkey Z' ≠ 1 →
    AR ts ns (xs.map Ex.sh) ++ Z = AR ts' ns' (ys.map Ex.sh) ++ Z' → ts = ts' ∧ ns = ns' ∧ eqvL xs ys ∧ Z = Z'
  | [], [], [], [], [], [], Z, Z', _, _, _, _, _, _, _, _, _, _, _, _, _, _, e => by simp only [AR, List.nil_append, List.map_nil] at e; exact ⟨rfl, rfl, by simp [eqvL], e⟩
  | [], [], [], t' :: ts', n' :: ns', y :: ys, Z, Z', _, _, _, _, _, a2, _, _, _, _, _, _, z, _, e => by
    simp only [AR, List.nil_append, List.map_nil, List.map_cons, List.cons_append, List.append_assoc] at e
    rw [e, zkey_arm (a2 t' (by simp))] at z
    exact absurd rfl z
  | t :: ts, n :: ns, x :: xs, [], [], [], Z, Z', _, _, _, _, a1, _, _, _, _, _, _, _, _, z', e => by
    simp only [AR, List.nil_append, List.map_nil, List.map_cons, List.cons_append, List.append_assoc] at e
    rw [← e, zkey_arm (a1 t (by simp))] at z'
    exact absurd rfl z'
  | t :: ts, n :: ns, x :: xs, t' :: ts', n' :: ns', y :: ys, Z, Z', h1, h2, h3, h4, a1, a2, b1, b2, hw, hy, fz, fz', z, z', e => by
    simp only [AR, List.map_cons, List.cons_append, List.append_assoc, List.cons.injEq, true_and] at e
    obtain ⟨e1, e2⟩ := run_eq (tok3 (a1 t (by simp))).2 (tok3 (a2 t' (by simp))).2 fol32 fol32 e
    simp only [List.cons.injEq, true_and] at e2
    obtain ⟨e3, e4⟩ := run_eq (tok1 (b1 n (by simp))).2.1 (tok1 (b2 n' (by simp))).2.1 fol32 fol32 e2
    simp only [List.cons.injEq, true_and] at e4
    obtain ⟨e5, e6⟩ := hw x (by simp) y (hy y (by simp)) _ _ (folW_ar _ _ _ _ fz) (folW_ar _ _ _ _ fz') e4
    obtain ⟨e7, e8, e9, e10⟩ := AR_inj ts ns xs ts' ns' ys Z Z' (by simpa using h1) (by simpa using h2) (by simpa using h3) (by simpa using h4) (fun s hs => a1 s (by simp [hs])) (fun s hs => a2 s (by simp [hs])) (fun s hs => b1 s (by simp [hs])) (fun s hs => b2 s (by simp [hs])) (fun x hx => hw x (by simp [hx])) (fun y hy' => hy y (by simp [hy'])) fz fz' z z' e6
    exact ⟨by rw [e1, e7], by rw [e3, e8], ⟨e5, e9⟩, e10⟩
  | [], n :: ns, _, _, _, _, _, _, h, _, _, _, _, _, _, _, _, _, _, _, _, _, _ => by simp at h
  | t :: ts, [], _, _, _, _, _, _, h, _, _, _, _, _, _, _, _, _, _, _, _, _, _ => by simp at h
  | [], [], x :: xs, _, _, _, _, _, _, h, _, _, _, _, _, _, _, _, _, _, _, _, _ => by simp at h
  | t :: ts, n :: ns, [], _, _, _, _, _, _, h, _, _, _, _, _, _, _, _, _, _, _, _, _ => by simp at h
  | [], [], [], [], n' :: ns', _, _, _, _, _, h, _, _, _, _, _, _, _, _, _, _, _, _ => by simp at h
  | [], [], [], t' :: ts', [], _, _, _, _, _, h, _, _, _, _, _, _, _, _, _, _, _, _ => by simp at h
  | [], [], [], [], [], y :: ys, _, _, _, _, _, h, _, _, _, _, _, _, _, _, _, _, _ => by simp at h
  | [], [], [], t' :: ts', n' :: ns', [], _, _, _, _, _, h, _, _, _, _, _, _, _, _, _, _, _ => by simp at h
  | t :: ts, n :: ns, x :: xs, [], n' :: ns', _, _, _, _, _, h, _, _, _, _, _, _, _, _, _, _, _, _ => by simp at h
  | t :: ts, n :: ns, x :: xs, t' :: ts', [], _, _, _, _, _, h, _, _, _, _, _, _, _, _, _, _, _, _ => by simp at h
  | t :: ts, n :: ns, x :: xs, [], [], y :: ys, _, _, _, _, _, h, _, _, _, _, _, _, _, _, _, _, _ => by simp at h
  | t :: ts, n :: ns, x :: xs, t' :: ts', n' :: ns', [], _, _, _, _, _, h, _, _, _, _, _, _, _, _, _, _, _ => by simp at h

theorem eqv_of {d e : ExD} {l m : List Ex} (h : (Ex.mk d l).Ok) (h' : (Ex.mk e m).Ok) (hk : d.kind = e.kind) (h1 : d.kind ≠ 1) (h8 : ¬ (d.kind = 8 ∨ d.kind = 14)) (hs : d.s = e.s) (ht : d.t = e.t) (hL : eqvL l m) : (Ex.mk d l).eqv (.mk e m) := by
  have a := h.l0 h8
  have b := h'.l0 (by rw [← hk]; exact h8)
  exact ⟨hk, by rw [h.z h1, h'.z (by rw [← hk]; exact h1)], hs, ht, by rw [a.1, b.1], by rw [a.2, b.2], hL⟩
theorem eq1 {a b : Ex} (h : a.eqv b) : eqvL [a] [b] := by simp [eqvL, h]
theorem eq2 {a b a' b' : Ex} (h : a.eqv a') (k : b.eqv b') : eqvL [a, b] [a', b'] := by simp [eqvL, h, k]
theorem eq3 {a b c a' b' c' : Ex} (h : a.eqv a') (k : b.eqv b') (j : c.eqv c') : eqvL [a, b, c] [a', b', c'] := by simp [eqvL, h, k, j]
theorem parts_none {d : ExD} {l : List Ex} (h : (Ex.mk d l).Ok) (hk : d.kind = 1 ∨ d.kind = 2 ∨ d.kind = 3 ∨ d.kind = 22) : l = [] := by
  have h1 := h.fld.pn
  unfold partsF at h1
  rw [if_pos hk] at h1
  exact List.length_eq_zero_iff.1 (by rw [h.pl]; omega)
theorem st_in : [105, 110] ∈ stopsL := by decide
theorem st_then : [116, 104, 101, 110] ∈ stopsL := by decide
theorem st_else : [101, 108, 115, 101] ∈ stopsL := by decide
theorem st_end : [101, 110, 100] ∈ stopsL := by decide
theorem st_with : [119, 105, 116, 104] ∈ stopsL := by decide
theorem fw_in (u : Str) : FolW (32 :: 105 :: 110 :: 32 :: u) := folW_stop st_in fol32
theorem fw_then (u : Str) : FolW (32 :: 116 :: 104 :: 101 :: 110 :: 32 :: u) := folW_stop st_then fol32
theorem fw_else (u : Str) : FolW (32 :: 101 :: 108 :: 115 :: 101 :: 32 :: u) := folW_stop st_else fol32
end Go.Proofs.YtaglmmcjhlehjaaDoor
