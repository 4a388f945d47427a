/-
  What hangs on an image's meaning alone; how long its bytes are.
-/
import Derived.Test.YthdnnlelmelegaaCodeZ
import Derived.Test.YthdnnlelmelegaaCodeR
import Derived.Test.YthdnnlelmelegaaCodeF
import Derived.Test.YthdnnlelmelegaaCodeBack
namespace Go.Proofs.Ythdnnlelmelegaa
open Go.ChangeShapes Go.WideShapes Go.ChangeAt Go.RowKit
set_option linter.unusedVariables false

def AIns.bare (x : AIns) : AIns := { x with A := none, c := 0 }
def AFnc.bare (f : AFnc) : AFnc := { f with A := none, c := 0, code := f.code.map AIns.bare }
def AImg.bare (m : AImg) : AImg := { m with iA := none, iC := 0, tA := none, tC := 0, fA := none, fC := 0, funs := m.funs.map AFnc.bare }

theorem capsAt_bare (m : AImg) (i : Int) : capsAt m.bare i = capsAt m i := by
  unfold capsAt AImg.bare
  simp only [List.getElem?_map]
  cases m.funs[i.toNat]? <;> rfl
theorem fitsB_bare (m : AImg) (f : AFnc) (x : AIns) : fitsB m.bare f.bare x.bare = fitsB m f x := by
  have h : okOf m.bare f.bare x.bare = okOf m f x := by
    unfold okOf
    show (if x.op = 1 then _ else _) = _
    rw [show l0 x.bare = l0 x from rfl, show l1 x.bare = l1 x from rfl, capsAt_bare]
    rfl
  unfold fitsB
  rw [h]; rfl
theorem funcB_bare (m : AImg) (f : AFnc) : funcB m.bare f.bare = funcB m f := by
  have h1 : lastB f.bare = lastB f := by
    unfold lastB lastOp AFnc.bare
    simp only [List.getElem?_map]
    cases f.code[f.n - 1]? <;> rfl
  have h2 : f.bare.code.all (fitsB m.bare f.bare) = f.code.all (fitsB m f) := by
    show (f.code.map AIns.bare).all _ = _
    rw [List.all_map]
    congr 1
    funext x
    exact fitsB_bare m f x
  unfold funcB
  rw [h1, h2]; rfl
theorem soundB_bare (m : AImg) : soundB m.bare = soundB m := by
  have h1 : csum m.bare.funs m.bare.fN = csum m.funs m.fN := by
    unfold csum AImg.bare
    simp only [← List.map_take, List.map_map]
    rfl
  have h2 : m.bare.funs.all (funcB m.bare) = m.funs.all (funcB m) := by
    show (m.funs.map AFnc.bare).all _ = _
    rw [List.all_map]
    congr 1
    funext x
    exact funcB_bare m x
  unfold soundB headB
  rw [h1, h2, capsAt_bare]; rfl

def Ins.canon (x : Ins) : AIns := ⟨x.op, x.a, none, x.l.length, 0, x.l⟩
def Fnc.canon (f : Fnc) : AFnc := ⟨f.regs, f.caps, none, f.code.length, 0, f.code.map Ins.canon⟩
def Img.canon (m : Img) : AImg := ⟨none, m.ints.length, 0, m.ints, none, m.texts.length, 0, m.texts, none, m.funs.length, 0, m.funs.map Fnc.canon⟩
theorem AIns.In.canon {w : World} {x : AIns} (h : x.In w) : x.bare = x.ins.canon := by
  unfold AIns.bare AIns.ins Ins.canon
  simp only
  rw [← h.rd.ints]
theorem AFnc.In.canon {w : World} {f : AFnc} (h : f.In w) : f.bare = f.fnc.canon := by
  unfold AFnc.bare AFnc.fnc Fnc.canon
  simp only
  rw [← h.rd.insN, List.length_map, List.map_map]
  congr 1
  exact List.map_congr_left (fun x hx => (h.all x hx).canon)
theorem AImg.In.canon {w : World} {m : AImg} (h : m.In w) : m.bare = m.img.canon := by
  unfold AImg.bare AImg.img Img.canon
  simp only
  rw [← h.ints.ints, ← h.texts.strN, ← h.funs.fncN, List.length_map, List.map_map]
  congr 1
  exact List.map_congr_left (fun x hx => (h.fall x hx).canon)
theorem sound_img {w w' : World} {m m' : AImg} (h : m.In w) (h' : m'.In w') (e : m.img = m'.img) : soundB m = soundB m' := by
  rw [← soundB_bare m, ← soundB_bare m', h.canon, h'.canon, e]

theorem sameIns_ins {x y : AIns} (e : x.ins = y.ins) : sameIns x y = true := by
  unfold AIns.ins at e
  injection e with e1 e2 e3
  exact decide_eq_true ⟨e1, e2, e3⟩
theorem sameFnc_fnc {x y : AFnc} (e : x.fnc = y.fnc) : sameFnc x y = true := by
  unfold AFnc.fnc at e
  injection e with e1 e2 e3
  have hl : x.code.length = y.code.length := by have := congrArg List.length e3; simpa using this
  unfold sameFnc
  rw [decide_eq_true e1, decide_eq_true e2, sameInss_yes hl (fun k h1 h2 => sameIns_ins (by
    have := congrArg (fun l => l[k]?) e3
    simp only [List.getElem?_map, List.getElem?_eq_getElem h1, List.getElem?_eq_getElem h2, Option.map_some] at this
    injection this))]; rfl
theorem sameImg_img {x y : AImg} (e : x.img = y.img) : sameImg x y = true := by
  unfold AImg.img at e
  injection e with e1 e2 e3
  have hl : x.funs.length = y.funs.length := by have := congrArg List.length e3; simpa using this
  unfold sameImg
  rw [decide_eq_true e1, decide_eq_true e2, sameFncs_yes hl (fun k h1 h2 => sameFnc_fnc (by
    have := congrArg (fun l => l[k]?) e3
    simp only [List.getElem?_map, List.getElem?_eq_getElem h1, List.getElem?_eq_getElem h2, Option.map_some] at this
    injection this))]; rfl

theorem AIns.In.R {w : World} {x : AIns} (h : x.In w) : InsR x.ins := ⟨h.op, h.a, by have := h.sz; show x.l.length < _; rw [h.rd.ints]; omega, h.all⟩
theorem AFnc.In.R {w : World} {x : AFnc} (h : x.In w) : FncR x.fnc := ⟨h.regs, h.caps, by have := h.sz; show (x.code.map AIns.ins).length < _; rw [List.length_map, h.rd.insN]; omega, fun y hy => by
  obtain ⟨z, hz, rfl⟩ := List.mem_map.1 hy
  exact (h.all z hz).R⟩
theorem AImg.In.R {w : World} {m : AImg} (h : m.In w) (hs : soundB m = true) : ImgR m.img := by
  refine ⟨h.iall, by have := h.isz; show m.ints.length < _; rw [h.ints.ints]; omega, fun s hs' => ?_, by have := h.tsz; show m.texts.length < _; rw [h.texts.strN]; omega, fun y hy => ?_, by have := h.fsz; show (m.funs.map AFnc.fnc).length < _; rw [List.length_map, h.funs.fncN]; omega⟩
  · have h1 : m.texts.all (fun s => decide (s.length ≤ 2000)) = true := by
      unfold soundB at hs
      simp only [Bool.and_eq_true] at hs
      exact hs.2.1
    have := of_decide_eq_true (List.all_eq_true.1 h1 s hs')
    omega
  · obtain ⟨z, hz, rfl⟩ := List.mem_map.1 hy
    exact (h.fall z hz).R

theorem flat_bound {α : Type} {put : α → List UInt8} {q : Nat} : ∀ (l : List α), (∀ x ∈ l, (put x).length ≤ q) → (l.flatMap put).length ≤ l.length * q
  | [], h => by simp
  | x :: l, h => by
    have h1 := flat_bound l (fun y hy => h y (by simp [hy]))
    have h2 := h x (by simp)
    rw [List.flatMap_cons, List.length_append, List.length_cons, Nat.add_mul]; omega
/-- A small image has few bytes. -/
theorem few_bytes {w : World} {m : AImg} (h : m.In w) (hf : FewP m) : (putImg m.img).length ≤ 1000000000 := by
  rw [putImg_eq]
  have hi := h.ints.ints
  have ht := h.texts.strN
  have hn := h.funs.fncN
  have hall := hf.all
  have n1 := num_len (m.ints.length : Int) (by unfold inRange; omega)
  have n2 := num_len (m.texts.length : Int) (by unfold inRange; omega)
  have n3 := num_len (m.funs.length : Int) (by unfold inRange; omega)
  have b1 := flat_bound (put := num) (q := 10) m.ints (fun n hn => num_len n (h.iall n hn))
  have b2 := flat_bound (put := putStr) (q := 3010) m.texts (fun s hs => by
    obtain ⟨j, hj, rfl⟩ := List.getElem_of_mem hs
    have h1 := hf.texts j hj
    have h2 := num_len ((m.texts[j].length : Nat) : Int) (by unfold inRange; omega)
    unfold putStr
    rw [List.length_append]; omega)
  have b3 := flat_bound (put := fun f : AFnc => putFnc f.fnc) (q := 300000) m.funs (fun f hfm => by
    obtain ⟨j, hj, rfl⟩ := List.getElem_of_mem hfm
    have hin := h.fall _ (List.getElem_mem hj)
    have hcl := hin.rd.insN
    have hc : m.funs[j].n ≤ 500 := by
      have h1 := csum_succ m.funs j hj
      have h2 := csum_mono (l := m.funs) (j := j + 1) (k := m.fN) (by omega) (by omega)
      omega
    have c1 := num_len m.funs[j].regs hin.regs
    have c2 := num_len m.funs[j].caps hin.caps
    have c3 := num_len ((m.funs[j].code.map AIns.ins).length : Int) (by rw [List.length_map]; unfold inRange; omega)
    have c4 := flat_bound (put := fun x : AIns => putIns x.ins) (q := 530) m.funs[j].code (fun x hx => by
      obtain ⟨p, hp, rfl⟩ := List.getElem_of_mem hx
      have hxi := hin.all _ (List.getElem_mem hp)
      have hxl := hxi.rd.ints
      have h50 := hf.nums j hj p hp
      have d1 := num_len m.funs[j].code[p].op hxi.op
      have d2 := num_len m.funs[j].code[p].a hxi.a
      have d3 := num_len (m.funs[j].code[p].l.length : Int) (by unfold inRange; omega)
      have d4 := flat_bound (put := num) (q := 10) m.funs[j].code[p].l (fun n hn => num_len n (hxi.all n hn))
      show (num m.funs[j].code[p].op ++ num m.funs[j].code[p].a ++ num (m.funs[j].code[p].l.length : Int) ++ m.funs[j].code[p].l.flatMap num).length ≤ 530
      simp only [List.length_append]
      have : m.funs[j].code[p].l.length * 10 ≤ 50 * 10 := Nat.mul_le_mul_right _ (by omega)
      omega)
    show (num m.funs[j].regs ++ num m.funs[j].caps ++ num ((m.funs[j].code.map AIns.ins).length : Int) ++ (m.funs[j].code.map AIns.ins).flatMap putIns).length ≤ 300000
    rw [List.flatMap_map]
    simp only [List.length_append]
    have : m.funs[j].code.length * 530 ≤ 500 * 530 := Nat.mul_le_mul_right _ (by omega)
    omega)
  simp only [List.length_append]
  have e1 : m.ints.length * 10 ≤ 500 * 10 := Nat.mul_le_mul_right _ (by omega)
  have e2 : m.texts.length * 3010 ≤ 500 * 3010 := Nat.mul_le_mul_right _ (by omega)
  have e3 : m.funs.length * 300000 ≤ 500 * 300000 := Nat.mul_le_mul_right _ (by omega)
  omega
end Go.Proofs.Ythdnnlelmelegaa
