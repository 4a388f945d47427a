/-
  A record with a label: put's last region (NN). (Made by gen_mcn.py.)
-/
import Derived.Test.YtjmgnohepoacbaaDoorK06
namespace Go.Proofs.YtjmgnohepoacbaaDoor
open Go Go.ChangeShapes Go.WideShapes Go.ChangeAt Go.RowKit Go.Sort
set_option linter.unusedVariables false
set_option linter.unusedSimpArgs false

set_option maxHeartbeats 4000000 in
set_option maxRecDepth 100000 in
theorem reg39NN_any {Q : Exit → Act → World → Prop} (hQp : ∀ c (a : Act) (d : Tmp) v w, Q (.panic c) (a.put (some d) v) w → Q (.panic c) a w) {w0 V : World} {P : Nat → Prop} {Good : World → Prop} {la va : Addr} {mb b4 b6 b7 eb eo lc c lab lao vab vao : Nat} {LA3 A3 : Option Addr} {labs : List Str} {vals : List Val} {x : Str} {z : Val} {LAz : Option Addr} {lcz : Nat} {Az : Option Addr} {cz : Nat} {pz : Option Addr}
    (hS : (C39 mb b4 b6 b7 eb eo x none 0 lc none c z LAz lcz Az cz pz) V) (hlc : lc ≤ maxLen) (hc : c ≤ maxLen)
    (hCS : ∀ V' g g1, Below V.heap.size V V' → Rd V' 1 (some ⟨g1, 0, none⟩) 1 [.string (bstr x)] → Rd V' 1 (some ⟨g, 0, none⟩) 3 [.slice none 0 lc, .slice (some ⟨g1, 0, none⟩) 1 1, .slice none 0 lc] → Calls Tryd.prog 60 #[.slice (some ⟨g, 0, none⟩) 3 3] V' fun e w' => ∃ A c, e = .returned (.slice A labs.length c) ∧ FL P labs A c w' ∧ Below V'.heap.size V' w')
    (hCV : ∀ V' g g1, Below V.heap.size V V' → Rd V' 6 (some ⟨g1, 0, none⟩) 1 [.int .i64 z.sort, .int .i64 z.n, .string (bstr z.s), .slice LAz z.labels.length lcz, .slice Az z.l.length cz, .pointer pz] → Rd V' 1 (some ⟨g, 0, none⟩) 3 [.slice none 0 c, .slice (some ⟨g1, 0, none⟩) 1 1, .slice none 0 c] → Calls Tryd.prog 61 #[.slice (some ⟨g, 0, none⟩) 3 3] V' fun e w' => ∃ A c, e = .returned (.slice A vals.length c) ∧ Fs w0 P vals A c w' ∧ Below V'.heap.size V' w')
    (hT : ∀ V' LA' lc' A' c', Below V.heap.size V V' → FL P labs LA' lc' V' → Fs w0 P vals A' c' V' → Calls Tryd.prog 21 #[.pointer (some ⟨mb, 0, none⟩), .agg #[.int .i64 4, .int .i64 0, .string ⟨#[]⟩, .slice LA' labs.length lc', .slice A' vals.length c', .pointer none]] V' fun e w' => e = .returned (.tuple #[]) ∧ Good w' ∧ (C39 mb b4 b6 b7 eb eo x none 0 lc none c z LAz lcz Az cz pz) w') {u0 u2 u3 u5 u9 u11 u12 u13 u14 u15 u16 u17 u18 u19 u20 u21 u22 u23 u24 u25 u26 u27 u28 u29 u30 u31 u32 u33 u34 u35 u36 u37 u38 u39 u40 u41 u42 u43 u44 u45 u46 u47 u48 u49 u50 u51 u52 u53 u54 u55 u56 u57 u58 u59 u60 u61 u62 u63 u64 u65 u66 u67 u68 u69 u70 : Value}
    (hKK : ∀ (y40 : Value) (y41 : Value) (y42 : Value) (y43 : Value) (y44 : Value) (y45 : Value) (y46 : Value) (y47 : Value) (y48 : Value) (y49 : Value) (y50 : Value) (y51 : Value) (y52 : Value) (y53 : Value) (y54 : Value) (y55 : Value) (y56 : Value) (y57 : Value) (y58 : Value) (y59 : Value) (y60 : Value) (y61 : Value) (y62 : Value) (y63 : Value) (y64 : Value) (y65 : Value) (y66 : Value) (y67 : Value) (y68 : Value) (y69 : Value) (y70 : Value) V', Good V' → Q .normal ⟨#[u0, .pointer (some ⟨eb, eo, none⟩), u2, u3, .pointer (some ⟨b4, 0, none⟩), u5, .pointer (some ⟨b6, 0, none⟩), .pointer (some ⟨b7, 0, none⟩), .int .i64 0, u9, .int .i64 0, u11, u12, u13, u14, u15, u16, u17, u18, u19, u20, u21, u22, u23, u24, u25, u26, u27, u28, u29, u30, u31, u32, u33, u34, u35, u36, u37, u38, u39, y40, y41, y42, y43, y44, y45, y46, y47, y48, y49, y50, y51, y52, y53, y54, y55, y56, y57, y58, y59, y60, y61, y62, y63, y64, y65, y66, y67, y68, y69, y70], []⟩ V') :
    Code.wp Tryd.prog (.region 7 q39 true) Q ⟨#[u0, .pointer (some ⟨eb, eo, none⟩), u2, u3, .pointer (some ⟨b4, 0, none⟩), u5, .pointer (some ⟨b6, 0, none⟩), .pointer (some ⟨b7, 0, none⟩), .int .i64 0, u9, .int .i64 0, u11, u12, u13, u14, u15, u16, u17, u18, u19, u20, u21, u22, u23, u24, u25, u26, u27, u28, u29, u30, u31, u32, u33, u34, u35, u36, u37, u38, u39, u40, u41, u42, u43, u44, u45, u46, u47, u48, u49, u50, u51, u52, u53, u54, u55, u56, u57, u58, u59, u60, u61, u62, u63, u64, u65, u66, u67, u68, u69, u70], []⟩ V := by
  have n7 : (lc : Int) ≤ 9223372036854775807 := by have := hlc; simp only [maxLen] at this; omega
  have n7' : (c : Int) ≤ 9223372036854775807 := by have := hc; simp only [maxLen] at this; omega
  have n0 : (0 : Int) ≤ (lc : Int) := by omega
  have n0' : (0 : Int) ≤ (c : Int) := by omega
  have eCS : ∀ args w, (callFunc 60 args).run Tryd.prog w = .ok (.enter 60 args) w := enters_of Tryd.func60 (by kernel_rfl) rfl
  have eCV : ∀ args w, (callFunc 61 args).run Tryd.prog w = .ok (.enter 61 args) w := enters_of Tryd.func61 (by kernel_rfl) rfl
  have eT : ∀ args w, (callFunc 21 args).run Tryd.prog w = .ok (.enter 21 args) w := enters_of Tryd.func21 (by kernel_rfl) rfl
  have HCS := Lib.hid hCS
  have HCV := Lib.hid hCV
  have HTELL := Lib.hid hT
  have hKK := Lib.hid hKK
  have HB0 := Lib.hid (Below.drew (Below.refl V.heap.size V))
  have HS0 := Lib.hid (hS.keep HB0.out)
  clear hS hCS hCV hT hlc hc
  refine wp_region_C (S1 := fun _ => True) (S2 := (C39 mb b4 b6 b7 eb eo x none 0 lc none c z LAz lcz Az cz pz)) (ss := []) (by kernel_rfl) ?_
  generalize V.drew = W9 at HB0 HS0 ⊢
  refine wpAnyC_takeY (i := 0) (oi := q39_0) (v := ?vx1_7159) (by kernel_rfl) (by kernel_rfl) (by kernel_rfl) (by kernel_rfl) ⟨HS0.out, fun _ => trivial⟩ rfl (fun c a w h => hQp c a _ _ w h) rfl ?hyx1_7159 ?restx1_7159
  case hyx1_7159 => intro W hSw; obtain ⟨s0, s1, s2, s3, s4, s5, s6, s7, s8, s9⟩ := hSw; unfold q39_0; go_simp; try with_reducible rfl
  try simp only [q39_0, Act.put, List.setIfInBounds_toArray, List.set_cons_zero, List.set_cons_succ]
  refine wpAnyC_takeY (i := 1) (oi := q39_1) (v := ?vx2_7159) (by kernel_rfl) (by kernel_rfl) (by kernel_rfl) (by kernel_rfl) ⟨HS0.out, fun _ => trivial⟩ rfl (fun c a w h => hQp c a _ _ w h) rfl ?hyx2_7159 ?restx2_7159
  case hyx2_7159 => intro W hSw; obtain ⟨s0, s1, s2, s3, s4, s5, s6, s7, s8, s9⟩ := hSw; unfold q39_1; go_simp; try with_reducible rfl
  try simp only [q39_1, Act.put, List.setIfInBounds_toArray, List.set_cons_zero, List.set_cons_succ]
  refine wpAnyC_takeY (i := 2) (oi := q39_2) (v := ?vx3_7159) (by kernel_rfl) (by kernel_rfl) (by kernel_rfl) (by kernel_rfl) ⟨HS0.out, fun _ => trivial⟩ rfl (fun c a w h => hQp c a _ _ w h) rfl ?hyx3_7159 ?restx3_7159
  case hyx3_7159 => intro W hSw; obtain ⟨s0, s1, s2, s3, s4, s5, s6, s7, s8, s9⟩ := hSw; unfold q39_2; go_simp; try with_reducible rfl
  try simp only [q39_2, Act.put, List.setIfInBounds_toArray, List.set_cons_zero, List.set_cons_succ]
  refine wpAnyC_takeY (i := 3) (oi := q39_3) (v := ?vx4_7159) (by kernel_rfl) (by kernel_rfl) (by kernel_rfl) (by kernel_rfl) ⟨HS0.out, fun _ => trivial⟩ rfl (fun c a w h => hQp c a _ _ w h) rfl ?hyx4_7159 ?restx4_7159
  case hyx4_7159 => intro W hSw; obtain ⟨s0, s1, s2, s3, s4, s5, s6, s7, s8, s9⟩ := hSw; unfold q39_3; go_simp; try with_reducible rfl
  try simp only [q39_3, Act.put, List.setIfInBounds_toArray, List.set_cons_zero, List.set_cons_succ]
  refine wpAnyC_takeY (i := 4) (oi := q39_4) (v := ?vx5_7159) (by kernel_rfl) (by kernel_rfl) (by kernel_rfl) (by kernel_rfl) ⟨HS0.out, fun _ => trivial⟩ rfl (fun c a w h => hQp c a _ _ w h) rfl ?hyx5_7159 ?restx5_7159
  case hyx5_7159 => intro W hSw; obtain ⟨s0, s1, s2, s3, s4, s5, s6, s7, s8, s9⟩ := hSw; unfold q39_4; go_simp; try with_reducible rfl
  try simp only [q39_4, Act.put, List.setIfInBounds_toArray, List.set_cons_zero, List.set_cons_succ]
  refine wpAnyC_takeY (i := 5) (oi := q39_5) (v := ?vx6_7159) (by kernel_rfl) (by kernel_rfl) (by kernel_rfl) (by kernel_rfl) ⟨HS0.out, fun _ => trivial⟩ rfl (fun c a w h => hQp c a _ _ w h) rfl ?hyx6_7159 ?restx6_7159
  case hyx6_7159 => intro W hSw; obtain ⟨s0, s1, s2, s3, s4, s5, s6, s7, s8, s9⟩ := hSw; unfold q39_5; go_simp; try with_reducible rfl
  try simp only [q39_5, Act.put, List.setIfInBounds_toArray, List.set_cons_zero, List.set_cons_succ]
  refine wpAnyC_takeY (i := 6) (oi := q39_6) (v := ?vx7_7159) (by kernel_rfl) (by kernel_rfl) (by kernel_rfl) (by kernel_rfl) ⟨HS0.out, fun _ => trivial⟩ rfl (fun c a w h => hQp c a _ _ w h) rfl ?hyx7_7159 ?restx7_7159
  case hyx7_7159 => intro W hSw; obtain ⟨s0, s1, s2, s3, s4, s5, s6, s7, s8, s9⟩ := hSw; unfold q39_6; go_simp; try with_reducible rfl
  try simp only [q39_6, Act.put, List.setIfInBounds_toArray, List.set_cons_zero, List.set_cons_succ]
  refine wpAnyC_takeY (i := 7) (oi := q39_7) (v := ?vx8_7159) (by kernel_rfl) (by kernel_rfl) (by kernel_rfl) (by kernel_rfl) ⟨HS0.out, fun _ => trivial⟩ rfl (fun c a w h => hQp c a _ _ w h) rfl ?hyx8_7159 ?restx8_7159
  case hyx8_7159 => intro W hSw; obtain ⟨s0, s1, s2, s3, s4, s5, s6, s7, s8, s9⟩ := hSw; unfold q39_7; go_simp; try with_reducible rfl
  try simp only [q39_7, Act.put, List.setIfInBounds_toArray, List.set_cons_zero, List.set_cons_succ]
  refine wpAnyC_takeY (i := 8) (oi := q39_8) (v := ?vx9_7159) (by kernel_rfl) (by kernel_rfl) (by kernel_rfl) (by kernel_rfl) ⟨HS0.out, fun _ => trivial⟩ rfl (fun c a w h => hQp c a _ _ w h) rfl ?hyx9_7159 ?restx9_7159
  case hyx9_7159 => intro W hSw; obtain ⟨s0, s1, s2, s3, s4, s5, s6, s7, s8, s9⟩ := hSw; unfold q39_8; go_simp; try with_reducible rfl
  try simp only [q39_8, Act.put, List.setIfInBounds_toArray, List.set_cons_zero, List.set_cons_succ]
  refine wpAnyC_takeY (i := 9) (oi := q39_9) (v := ?vx10_7159) (by kernel_rfl) (by kernel_rfl) (by kernel_rfl) (by kernel_rfl) ⟨HS0.out, fun _ => trivial⟩ rfl (fun c a w h => hQp c a _ _ w h) rfl ?hyx10_7159 ?restx10_7159
  case hyx10_7159 => intro W hSw; obtain ⟨s0, s1, s2, s3, s4, s5, s6, s7, s8, s9⟩ := hSw; unfold q39_9; go_simp; try with_reducible rfl
  try simp only [q39_9, Act.put, List.setIfInBounds_toArray, List.set_cons_zero, List.set_cons_succ]
  refine wpAnyC_takeY (i := 11) (oi := q39_11) (v := ?vx11_7159) (by kernel_rfl) (by kernel_rfl) (by kernel_rfl) (by kernel_rfl) ⟨HS0.out, fun _ => trivial⟩ rfl (fun c a w h => hQp c a _ _ w h) rfl ?hyx11_7159 ?restx11_7159
  case hyx11_7159 => intro W hSw; obtain ⟨s0, s1, s2, s3, s4, s5, s6, s7, s8, s9⟩ := hSw; unfold q39_11; go_simp; try with_reducible rfl
  try simp only [q39_11, Act.put, List.setIfInBounds_toArray, List.set_cons_zero, List.set_cons_succ]
  refine wpAnyC_takeY (i := 12) (oi := q39_12) (v := ?vx12_7159) (by kernel_rfl) (by kernel_rfl) (by kernel_rfl) (by kernel_rfl) ⟨HS0.out, fun _ => trivial⟩ rfl (fun c a w h => hQp c a _ _ w h) rfl ?hyx12_7159 ?restx12_7159
  case hyx12_7159 => intro W hSw; obtain ⟨s0, s1, s2, s3, s4, s5, s6, s7, s8, s9⟩ := hSw; unfold q39_12; go_simp; try with_reducible rfl
  try simp only [q39_12, Act.put, List.setIfInBounds_toArray, List.set_cons_zero, List.set_cons_succ]
  refine wpAnyC_takeY (i := 13) (oi := q39_13) (v := ?vx13_7159) (by kernel_rfl) (by kernel_rfl) (by kernel_rfl) (by kernel_rfl) ⟨HS0.out, fun _ => trivial⟩ rfl (fun c a w h => hQp c a _ _ w h) rfl ?hyx13_7159 ?restx13_7159
  case hyx13_7159 => intro W hSw; obtain ⟨s0, s1, s2, s3, s4, s5, s6, s7, s8, s9⟩ := hSw; unfold q39_13; go_simp; try with_reducible rfl
  try simp only [q39_13, Act.put, List.setIfInBounds_toArray, List.set_cons_zero, List.set_cons_succ]
  refine wpAnyC_takeY (i := 14) (oi := q39_14) (v := ?vx14_7159) (by kernel_rfl) (by kernel_rfl) (by kernel_rfl) (by kernel_rfl) ⟨HS0.out, fun _ => trivial⟩ rfl (fun c a w h => hQp c a _ _ w h) rfl ?hyx14_7159 ?restx14_7159
  case hyx14_7159 => intro W hSw; obtain ⟨s0, s1, s2, s3, s4, s5, s6, s7, s8, s9⟩ := hSw; unfold q39_14; go_simp; try with_reducible rfl
  try simp only [q39_14, Act.put, List.setIfInBounds_toArray, List.set_cons_zero, List.set_cons_succ]
  refine wpAnyC_takeY (i := 17) (oi := q39_17) (v := ?vx15_7159) (by kernel_rfl) (by kernel_rfl) (by kernel_rfl) (by kernel_rfl) ⟨HS0.out, fun _ => trivial⟩ rfl (fun c a w h => hQp c a _ _ w h) rfl ?hyx15_7159 ?restx15_7159
  case hyx15_7159 => intro W hSw; obtain ⟨s0, s1, s2, s3, s4, s5, s6, s7, s8, s9⟩ := hSw; unfold q39_17; go_simp; try with_reducible rfl
  try simp only [q39_17, Act.put, List.setIfInBounds_toArray, List.set_cons_zero, List.set_cons_succ]
  refine wpAnyC_takeY (i := 18) (oi := q39_18) (v := ?vx16_7159) (by kernel_rfl) (by kernel_rfl) (by kernel_rfl) (by kernel_rfl) ⟨HS0.out, fun _ => trivial⟩ rfl (fun c a w h => hQp c a _ _ w h) rfl ?hyx16_7159 ?restx16_7159
  case hyx16_7159 => intro W hSw; obtain ⟨s0, s1, s2, s3, s4, s5, s6, s7, s8, s9⟩ := hSw; unfold q39_18; go_simp; try with_reducible rfl
  try simp only [q39_18, Act.put, List.setIfInBounds_toArray, List.set_cons_zero, List.set_cons_succ]
  refine wpAnyC_takeY (i := 19) (oi := q39_19) (v := ?vx17_7159) (by kernel_rfl) (by kernel_rfl) (by kernel_rfl) (by kernel_rfl) ⟨HS0.out, fun _ => trivial⟩ rfl (fun c a w h => hQp c a _ _ w h) rfl ?hyx17_7159 ?restx17_7159
  case hyx17_7159 => intro W hSw; obtain ⟨s0, s1, s2, s3, s4, s5, s6, s7, s8, s9⟩ := hSw; unfold q39_19; go_simp; try with_reducible rfl
  try simp only [q39_19, Act.put, List.setIfInBounds_toArray, List.set_cons_zero, List.set_cons_succ]
  refine wpAnyC_takeY (i := 20) (oi := q39_20) (v := ?vx18_7159) (by kernel_rfl) (by kernel_rfl) (by kernel_rfl) (by kernel_rfl) ⟨HS0.out, fun _ => trivial⟩ rfl (fun c a w h => hQp c a _ _ w h) rfl ?hyx18_7159 ?restx18_7159
  case hyx18_7159 => intro W hSw; obtain ⟨s0, s1, s2, s3, s4, s5, s6, s7, s8, s9⟩ := hSw; unfold q39_20; go_simp; try with_reducible rfl
  try simp only [q39_20, Act.put, List.setIfInBounds_toArray, List.set_cons_zero, List.set_cons_succ]
  refine wpAnyC_takeY (i := 21) (oi := q39_21) (v := ?vx19_7159) (by kernel_rfl) (by kernel_rfl) (by kernel_rfl) (by kernel_rfl) ⟨HS0.out, fun _ => trivial⟩ rfl (fun c a w h => hQp c a _ _ w h) rfl ?hyx19_7159 ?restx19_7159
  case hyx19_7159 => intro W hSw; obtain ⟨s0, s1, s2, s3, s4, s5, s6, s7, s8, s9⟩ := hSw; unfold q39_21; go_simp; try with_reducible rfl
  try simp only [q39_21, Act.put, List.setIfInBounds_toArray, List.set_cons_zero, List.set_cons_succ]
  refine wpAnyC_takeY (i := 23) (oi := q39_23) (v := ?vx20_7159) (by kernel_rfl) (by kernel_rfl) (by kernel_rfl) (by kernel_rfl) ⟨HS0.out, fun _ => trivial⟩ rfl (fun c a w h => hQp c a _ _ w h) rfl ?hyx20_7159 ?restx20_7159
  case hyx20_7159 => intro W hSw; obtain ⟨s0, s1, s2, s3, s4, s5, s6, s7, s8, s9⟩ := hSw; unfold q39_23; go_simp; try with_reducible rfl
  try simp only [q39_23, Act.put, List.setIfInBounds_toArray, List.set_cons_zero, List.set_cons_succ]
  refine wpAnyC_takeY (i := 24) (oi := q39_24) (v := ?vx21_7159) (by kernel_rfl) (by kernel_rfl) (by kernel_rfl) (by kernel_rfl) ⟨HS0.out, fun _ => trivial⟩ rfl (fun c a w h => hQp c a _ _ w h) rfl ?hyx21_7159 ?restx21_7159
  case hyx21_7159 => intro W hSw; obtain ⟨s0, s1, s2, s3, s4, s5, s6, s7, s8, s9⟩ := hSw; unfold q39_24; go_simp; try with_reducible rfl
  try simp only [q39_24, Act.put, List.setIfInBounds_toArray, List.set_cons_zero, List.set_cons_succ]
  refine wpAnyC_takeY (i := 25) (oi := q39_25) (v := ?vx22_7159) (by kernel_rfl) (by kernel_rfl) (by kernel_rfl) (by kernel_rfl) ⟨HS0.out, fun _ => trivial⟩ rfl (fun c a w h => hQp c a _ _ w h) rfl ?hyx22_7159 ?restx22_7159
  case hyx22_7159 => intro W hSw; obtain ⟨s0, s1, s2, s3, s4, s5, s6, s7, s8, s9⟩ := hSw; unfold q39_25; go_simp; try with_reducible rfl
  try simp only [q39_25, Act.put, List.setIfInBounds_toArray, List.set_cons_zero, List.set_cons_succ]
  refine wpAnyC_takeY (i := 26) (oi := q39_26) (v := ?vx23_7159) (by kernel_rfl) (by kernel_rfl) (by kernel_rfl) (by kernel_rfl) ⟨HS0.out, fun _ => trivial⟩ rfl (fun c a w h => hQp c a _ _ w h) rfl ?hyx23_7159 ?restx23_7159
  case hyx23_7159 => intro W hSw; obtain ⟨s0, s1, s2, s3, s4, s5, s6, s7, s8, s9⟩ := hSw; unfold q39_26; go_simp; try with_reducible rfl
  try simp only [q39_26, Act.put, List.setIfInBounds_toArray, List.set_cons_zero, List.set_cons_succ]
  refine wpAnyC_two (i := 10) (i' := 22) (o := q39_10) (o' := q39_22) (by kernel_rfl) rfl rfl ?_ ?_
  · intro K1 hK1
    have HK1 := Lib.hid hK1
    clear hK1
    unfold q39_10
    refine step_eq rfl (v := .slice (some ⟨W9.heap.size, 0, none⟩) 1 1) (w' := W9.alloc (.cells #[.string (bstr x)] 9)) ?hrl24_87390 ?hnl24_87390
    case hrl24_87390 => go_simp; try with_reducible rfl
    have HA1 := Lib.hid (show Below W9.heap.size W9 (W9.alloc (.cells #[.string (bstr x)] 9)) from (Below.refl _ _).alloc (Nat.le_refl _) _)
    have HB1 := Lib.hid (below_then HB0.out HA1.out)
    have HS1 := Lib.hid (HS0.out.keep HA1.out)
    have HR10_1 := Lib.hid (show Rd (W9.alloc (.cells #[.string (bstr x)] 9)) 1 (some ⟨W9.heap.size, 0, none⟩) 1 [.string (bstr x)] from Rd.lit (size := 1) (n := 1) W9 #[.string (bstr x)] _ rfl (fr := (0, 0)))
    refine HK1.out _ _ HS1.out (fun _ => trivial) ?_
    clear HK1 K1
    generalize W9.alloc (.cells #[.string (bstr x)] 9) = V1 at HB1 HS1 HR10_1 HA1 ⊢
    try simp only [Act.put, List.setIfInBounds_toArray, List.set_cons_zero, List.set_cons_succ]
    refine wpAnyC_two (i := 15) (i' := 22) (o := q39_15) (o' := q39_22) (by kernel_rfl) rfl rfl ?_ ?_
    · intro K2 hK2
      have HK2 := Lib.hid hK2
      clear hK2
      unfold q39_15
      refine step_eq rfl (v := .slice (some ⟨V1.heap.size, 0, none⟩) 3 3) (w' := V1.alloc (.cells #[.slice none 0 lc, .slice (some ⟨W9.heap.size, 0, none⟩) 1 1, .slice none 0 lc] 22)) ?hrl25_65753 ?hnl25_65753
      case hrl25_65753 => go_simp; try with_reducible rfl
      have HA2 := Lib.hid (show Below V1.heap.size V1 (V1.alloc (.cells #[.slice none 0 lc, .slice (some ⟨W9.heap.size, 0, none⟩) 1 1, .slice none 0 lc] 22)) from (Below.refl _ _).alloc (Nat.le_refl _) _)
      have HB2 := Lib.hid (below_then HB1.out HA2.out)
      have HS2 := Lib.hid (HS1.out.keep HA2.out)
      have HR10_2 := Lib.hid (HR10_1.out.below HA2.out)
      have HR15_2 := Lib.hid (show Rd (V1.alloc (.cells #[.slice none 0 lc, .slice (some ⟨W9.heap.size, 0, none⟩) 1 1, .slice none 0 lc] 22)) 1 (some ⟨V1.heap.size, 0, none⟩) 3 [.slice none 0 lc, .slice (some ⟨W9.heap.size, 0, none⟩) 1 1, .slice none 0 lc] from Rd.lit (size := 1) (n := 3) V1 #[.slice none 0 lc, .slice (some ⟨W9.heap.size, 0, none⟩) 1 1, .slice none 0 lc] _ rfl (fr := (0, 0)))
      refine HK2.out _ _ HS2.out (fun _ => trivial) ?_
      clear HK2 K2
      generalize V1.alloc (.cells #[.slice none 0 lc, .slice (some ⟨W9.heap.size, 0, none⟩) 1 1, .slice none 0 lc] 22) = V2 at HB2 HS2 HR10_2 HR15_2 HA2 ⊢
      try simp only [Act.put, List.setIfInBounds_toArray, List.set_cons_zero, List.set_cons_succ]
      refine wpAnyC_two (i := 16) (i' := 22) (o := q39_16) (o' := q39_22) (by kernel_rfl) rfl rfl ?_ ?_
      · intro K3 hK3
        have HK3 := Lib.hid hK3
        clear hK3
        unfold q39_16
        refine step_call (F := 60) (args := ?arc26_69017) rfl ?hrc26_69017 ?hcc26_69017
        case hrc26_69017 => go_simp; try with_reducible rfl
        refine (HCS.out _ _ _ HB2.out HR10_2.out HR15_2.out).mono ?_
        rintro e3 V3 ⟨Ar3, cr3, rfl, hf, hb⟩
        have HA3 := Lib.hid hb
        have HF16_3 := Lib.hid hf
        clear hb hf
        refine ⟨_, rfl, ?_⟩
        have HB3 := Lib.hid (below_then HB2.out HA3.out)
        have HS3 := Lib.hid (HS2.out.keep HA3.out)
        have HR10_3 := Lib.hid (HR10_2.out.below HA3.out)
        have HR15_3 := Lib.hid (HR15_2.out.below HA3.out)
        refine HK3.out _ _ HS3.out (fun _ => trivial) ?_
        clear HK3 K3
        try simp only [Act.put, List.setIfInBounds_toArray, List.set_cons_zero, List.set_cons_succ]
        refine wpAnyC_one (i := 22) (o := q39_22) (by kernel_rfl) rfl ?_
        intro K4 hK4
        have HK4 := Lib.hid hK4
        clear hK4
        unfold q39_22
        refine step_eq rfl (v := .slice (some ⟨V3.heap.size, 0, none⟩) 1 1) (w' := V3.alloc (.cells #[.int .i64 z.sort, .int .i64 z.n, .string (bstr z.s), .slice LAz z.labels.length lcz, .slice Az z.l.length cz, .pointer pz] 45)) ?hrl27_69017 ?hnl27_69017
        case hrl27_69017 => go_simp; try with_reducible rfl
        have HA4 := Lib.hid (show Below V3.heap.size V3 (V3.alloc (.cells #[.int .i64 z.sort, .int .i64 z.n, .string (bstr z.s), .slice LAz z.labels.length lcz, .slice Az z.l.length cz, .pointer pz] 45)) from (Below.refl _ _).alloc (Nat.le_refl _) _)
        have HB4 := Lib.hid (below_then HB3.out HA4.out)
        have HS4 := Lib.hid (HS3.out.keep HA4.out)
        have HR10_4 := Lib.hid (HR10_3.out.below HA4.out)
        have HR15_4 := Lib.hid (HR15_3.out.below HA4.out)
        have HF16_4 := Lib.hid (HF16_3.out.below HA4.out)
        have HR22_4 := Lib.hid (show Rd (V3.alloc (.cells #[.int .i64 z.sort, .int .i64 z.n, .string (bstr z.s), .slice LAz z.labels.length lcz, .slice Az z.l.length cz, .pointer pz] 45)) 6 (some ⟨V3.heap.size, 0, none⟩) 1 [.int .i64 z.sort, .int .i64 z.n, .string (bstr z.s), .slice LAz z.labels.length lcz, .slice Az z.l.length cz, .pointer pz] from Rd.lit (size := 6) (n := 1) V3 #[.int .i64 z.sort, .int .i64 z.n, .string (bstr z.s), .slice LAz z.labels.length lcz, .slice Az z.l.length cz, .pointer pz] _ rfl (fr := (0, 0)))
        refine HK4.out _ _ HS4.out (fun _ => trivial) ?_
        clear HK4 K4
        generalize V3.alloc (.cells #[.int .i64 z.sort, .int .i64 z.n, .string (bstr z.s), .slice LAz z.labels.length lcz, .slice Az z.l.length cz, .pointer pz] 45) = V4 at HB4 HS4 HR10_4 HR15_4 HF16_4 HR22_4 HA4 ⊢
        try simp only [Act.put, List.setIfInBounds_toArray, List.set_cons_zero, List.set_cons_succ]
        refine wpAnyC_one (i := 27) (o := q39_27) (by kernel_rfl) rfl ?_
        intro K5 hK5
        have HK5 := Lib.hid hK5
        clear hK5
        unfold q39_27
        refine step_eq rfl (v := .slice (some ⟨V4.heap.size, 0, none⟩) 3 3) (w' := V4.alloc (.cells #[.slice none 0 c, .slice (some ⟨V3.heap.size, 0, none⟩) 1 1, .slice none 0 c] 42)) ?hrl28_69017 ?hnl28_69017
        case hrl28_69017 => go_simp; try with_reducible rfl
        have HA5 := Lib.hid (show Below V4.heap.size V4 (V4.alloc (.cells #[.slice none 0 c, .slice (some ⟨V3.heap.size, 0, none⟩) 1 1, .slice none 0 c] 42)) from (Below.refl _ _).alloc (Nat.le_refl _) _)
        have HB5 := Lib.hid (below_then HB4.out HA5.out)
        have HS5 := Lib.hid (HS4.out.keep HA5.out)
        have HR10_5 := Lib.hid (HR10_4.out.below HA5.out)
        have HR15_5 := Lib.hid (HR15_4.out.below HA5.out)
        have HR22_5 := Lib.hid (HR22_4.out.below HA5.out)
        have HF16_5 := Lib.hid (HF16_4.out.below HA5.out)
        have HR27_5 := Lib.hid (show Rd (V4.alloc (.cells #[.slice none 0 c, .slice (some ⟨V3.heap.size, 0, none⟩) 1 1, .slice none 0 c] 42)) 1 (some ⟨V4.heap.size, 0, none⟩) 3 [.slice none 0 c, .slice (some ⟨V3.heap.size, 0, none⟩) 1 1, .slice none 0 c] from Rd.lit (size := 1) (n := 3) V4 #[.slice none 0 c, .slice (some ⟨V3.heap.size, 0, none⟩) 1 1, .slice none 0 c] _ rfl (fr := (0, 0)))
        refine HK5.out _ _ HS5.out (fun _ => trivial) ?_
        clear HK5 K5
        generalize V4.alloc (.cells #[.slice none 0 c, .slice (some ⟨V3.heap.size, 0, none⟩) 1 1, .slice none 0 c] 42) = V5 at HB5 HS5 HR10_5 HR15_5 HR22_5 HF16_5 HR27_5 HA5 ⊢
        try simp only [Act.put, List.setIfInBounds_toArray, List.set_cons_zero, List.set_cons_succ]
        refine wpAnyC_one (i := 28) (o := q39_28) (by kernel_rfl) rfl ?_
        intro K6 hK6
        have HK6 := Lib.hid hK6
        clear hK6
        unfold q39_28
        refine step_call (F := 61) (args := ?arc29_69017) rfl ?hrc29_69017 ?hcc29_69017
        case hrc29_69017 => go_simp; try with_reducible rfl
        refine (HCV.out _ _ _ HB5.out HR22_5.out HR27_5.out).mono ?_
        rintro e6 V6 ⟨Ar6, cr6, rfl, hf, hb⟩
        have HA6 := Lib.hid hb
        have HF28_6 := Lib.hid hf
        clear hb hf
        refine ⟨_, rfl, ?_⟩
        have HB6 := Lib.hid (below_then HB5.out HA6.out)
        have HS6 := Lib.hid (HS5.out.keep HA6.out)
        have HR10_6 := Lib.hid (HR10_5.out.below HA6.out)
        have HR15_6 := Lib.hid (HR15_5.out.below HA6.out)
        have HR22_6 := Lib.hid (HR22_5.out.below HA6.out)
        have HR27_6 := Lib.hid (HR27_5.out.below HA6.out)
        have HF16_6 := Lib.hid (HF16_5.out.below HA6.out)
        refine HK6.out _ _ HS6.out (fun _ => trivial) ?_
        clear HK6 K6
        try simp only [Act.put, List.setIfInBounds_toArray, List.set_cons_zero, List.set_cons_succ]
        refine wpAnyC_takeY (i := 29) (oi := q39_29) (v := ?vx30_69017) (by kernel_rfl) (by kernel_rfl) (by kernel_rfl) (by kernel_rfl) ⟨HS6.out, fun _ => trivial⟩ rfl (fun c a w h => hQp c a _ _ w h) rfl ?hyx30_69017 ?restx30_69017
        case hyx30_69017 => intro W hSw; obtain ⟨s0, s1, s2, s3, s4, s5, s6, s7, s8, s9⟩ := hSw; unfold q39_29; go_simp; try with_reducible rfl
        try simp only [q39_29, Act.put, List.setIfInBounds_toArray, List.set_cons_zero, List.set_cons_succ]
        refine wpAnyC_one (i := 30) (o := q39_30) (by kernel_rfl) rfl ?_
        intro K7 hK7
        have HK7 := Lib.hid hK7
        clear hK7
        unfold q39_30
        refine step_call (F := 21) (args := ?arc31_69017) rfl ?hrc31_69017 ?hcc31_69017
        case hrc31_69017 => go_simp; try with_reducible rfl
        refine (HTELL.out _ _ _ _ _ HB6.out HF16_6.out HF28_6.out).mono ?_
        rintro e7 V7 ⟨rfl, hg, hs⟩
        have HG := Lib.hid hg
        have HS7 := Lib.hid hs
        clear hg hs
        refine ⟨_, rfl, ?_⟩
        refine HK7.out _ _ HS7.out (fun _ => trivial) ?_
        clear HK7 K7
        try simp only [Act.put, List.setIfInBounds_toArray, List.set_cons_zero, List.set_cons_succ]
        exact wpAnyC_done (by kernel_rfl) (hKK.out _ _ _ _ _ _ _ _ _ _ _ _ _ _ _ _ _ _ _ _ _ _ _ _ _ _ _ _ _ _ _ _ HG.out) _
      · intro K3 hK3
        have HK3 := Lib.hid hK3
        clear hK3
        unfold q39_22
        refine step_eq rfl (v := .slice (some ⟨V2.heap.size, 0, none⟩) 1 1) (w' := V2.alloc (.cells #[.int .i64 z.sort, .int .i64 z.n, .string (bstr z.s), .slice LAz z.labels.length lcz, .slice Az z.l.length cz, .pointer pz] 45)) ?hrl32_58562 ?hnl32_58562
        case hrl32_58562 => go_simp; try with_reducible rfl
        have HA3 := Lib.hid (show Below V2.heap.size V2 (V2.alloc (.cells #[.int .i64 z.sort, .int .i64 z.n, .string (bstr z.s), .slice LAz z.labels.length lcz, .slice Az z.l.length cz, .pointer pz] 45)) from (Below.refl _ _).alloc (Nat.le_refl _) _)
        have HB3 := Lib.hid (below_then HB2.out HA3.out)
        have HS3 := Lib.hid (HS2.out.keep HA3.out)
        have HR10_3 := Lib.hid (HR10_2.out.below HA3.out)
        have HR15_3 := Lib.hid (HR15_2.out.below HA3.out)
        have HR22_3 := Lib.hid (show Rd (V2.alloc (.cells #[.int .i64 z.sort, .int .i64 z.n, .string (bstr z.s), .slice LAz z.labels.length lcz, .slice Az z.l.length cz, .pointer pz] 45)) 6 (some ⟨V2.heap.size, 0, none⟩) 1 [.int .i64 z.sort, .int .i64 z.n, .string (bstr z.s), .slice LAz z.labels.length lcz, .slice Az z.l.length cz, .pointer pz] from Rd.lit (size := 6) (n := 1) V2 #[.int .i64 z.sort, .int .i64 z.n, .string (bstr z.s), .slice LAz z.labels.length lcz, .slice Az z.l.length cz, .pointer pz] _ rfl (fr := (0, 0)))
        refine HK3.out _ _ HS3.out (fun _ => trivial) ?_
        clear HK3 K3
        generalize V2.alloc (.cells #[.int .i64 z.sort, .int .i64 z.n, .string (bstr z.s), .slice LAz z.labels.length lcz, .slice Az z.l.length cz, .pointer pz] 45) = V3 at HB3 HS3 HR10_3 HR15_3 HR22_3 HA3 ⊢
        try simp only [Act.put, List.setIfInBounds_toArray, List.set_cons_zero, List.set_cons_succ]
        refine wpAnyC_two (i := 16) (i' := 27) (o := q39_16) (o' := q39_27) (by kernel_rfl) rfl rfl ?_ ?_
        · intro K4 hK4
          have HK4 := Lib.hid hK4
          clear hK4
          unfold q39_16
          refine step_call (F := 60) (args := ?arc33_68889) rfl ?hrc33_68889 ?hcc33_68889
          case hrc33_68889 => go_simp; try with_reducible rfl
          refine (HCS.out _ _ _ HB3.out HR10_3.out HR15_3.out).mono ?_
          rintro e4 V4 ⟨Ar4, cr4, rfl, hf, hb⟩
          have HA4 := Lib.hid hb
          have HF16_4 := Lib.hid hf
          clear hb hf
          refine ⟨_, rfl, ?_⟩
          have HB4 := Lib.hid (below_then HB3.out HA4.out)
          have HS4 := Lib.hid (HS3.out.keep HA4.out)
          have HR10_4 := Lib.hid (HR10_3.out.below HA4.out)
          have HR15_4 := Lib.hid (HR15_3.out.below HA4.out)
          have HR22_4 := Lib.hid (HR22_3.out.below HA4.out)
          refine HK4.out _ _ HS4.out (fun _ => trivial) ?_
          clear HK4 K4
          try simp only [Act.put, List.setIfInBounds_toArray, List.set_cons_zero, List.set_cons_succ]
          refine wpAnyC_one (i := 27) (o := q39_27) (by kernel_rfl) rfl ?_
          intro K5 hK5
          have HK5 := Lib.hid hK5
          clear hK5
          unfold q39_27
          refine step_eq rfl (v := .slice (some ⟨V4.heap.size, 0, none⟩) 3 3) (w' := V4.alloc (.cells #[.slice none 0 c, .slice (some ⟨V2.heap.size, 0, none⟩) 1 1, .slice none 0 c] 42)) ?hrl34_68889 ?hnl34_68889
          case hrl34_68889 => go_simp; try with_reducible rfl
          have HA5 := Lib.hid (show Below V4.heap.size V4 (V4.alloc (.cells #[.slice none 0 c, .slice (some ⟨V2.heap.size, 0, none⟩) 1 1, .slice none 0 c] 42)) from (Below.refl _ _).alloc (Nat.le_refl _) _)
          have HB5 := Lib.hid (below_then HB4.out HA5.out)
          have HS5 := Lib.hid (HS4.out.keep HA5.out)
          have HR10_5 := Lib.hid (HR10_4.out.below HA5.out)
          have HR15_5 := Lib.hid (HR15_4.out.below HA5.out)
          have HR22_5 := Lib.hid (HR22_4.out.below HA5.out)
          have HF16_5 := Lib.hid (HF16_4.out.below HA5.out)
          have HR27_5 := Lib.hid (show Rd (V4.alloc (.cells #[.slice none 0 c, .slice (some ⟨V2.heap.size, 0, none⟩) 1 1, .slice none 0 c] 42)) 1 (some ⟨V4.heap.size, 0, none⟩) 3 [.slice none 0 c, .slice (some ⟨V2.heap.size, 0, none⟩) 1 1, .slice none 0 c] from Rd.lit (size := 1) (n := 3) V4 #[.slice none 0 c, .slice (some ⟨V2.heap.size, 0, none⟩) 1 1, .slice none 0 c] _ rfl (fr := (0, 0)))
          refine HK5.out _ _ HS5.out (fun _ => trivial) ?_
          clear HK5 K5
          generalize V4.alloc (.cells #[.slice none 0 c, .slice (some ⟨V2.heap.size, 0, none⟩) 1 1, .slice none 0 c] 42) = V5 at HB5 HS5 HR10_5 HR15_5 HR22_5 HF16_5 HR27_5 HA5 ⊢
          try simp only [Act.put, List.setIfInBounds_toArray, List.set_cons_zero, List.set_cons_succ]
          refine wpAnyC_one (i := 28) (o := q39_28) (by kernel_rfl) rfl ?_
          intro K6 hK6
          have HK6 := Lib.hid hK6
          clear hK6
          unfold q39_28
          refine step_call (F := 61) (args := ?arc35_68889) rfl ?hrc35_68889 ?hcc35_68889
          case hrc35_68889 => go_simp; try with_reducible rfl
          refine (HCV.out _ _ _ HB5.out HR22_5.out HR27_5.out).mono ?_
          rintro e6 V6 ⟨Ar6, cr6, rfl, hf, hb⟩
          have HA6 := Lib.hid hb
          have HF28_6 := Lib.hid hf
          clear hb hf
          refine ⟨_, rfl, ?_⟩
          have HB6 := Lib.hid (below_then HB5.out HA6.out)
          have HS6 := Lib.hid (HS5.out.keep HA6.out)
          have HR10_6 := Lib.hid (HR10_5.out.below HA6.out)
          have HR15_6 := Lib.hid (HR15_5.out.below HA6.out)
          have HR22_6 := Lib.hid (HR22_5.out.below HA6.out)
          have HR27_6 := Lib.hid (HR27_5.out.below HA6.out)
          have HF16_6 := Lib.hid (HF16_5.out.below HA6.out)
          refine HK6.out _ _ HS6.out (fun _ => trivial) ?_
          clear HK6 K6
          try simp only [Act.put, List.setIfInBounds_toArray, List.set_cons_zero, List.set_cons_succ]
          refine wpAnyC_takeY (i := 29) (oi := q39_29) (v := ?vx36_68889) (by kernel_rfl) (by kernel_rfl) (by kernel_rfl) (by kernel_rfl) ⟨HS6.out, fun _ => trivial⟩ rfl (fun c a w h => hQp c a _ _ w h) rfl ?hyx36_68889 ?restx36_68889
          case hyx36_68889 => intro W hSw; obtain ⟨s0, s1, s2, s3, s4, s5, s6, s7, s8, s9⟩ := hSw; unfold q39_29; go_simp; try with_reducible rfl
          try simp only [q39_29, Act.put, List.setIfInBounds_toArray, List.set_cons_zero, List.set_cons_succ]
          refine wpAnyC_one (i := 30) (o := q39_30) (by kernel_rfl) rfl ?_
          intro K7 hK7
          have HK7 := Lib.hid hK7
          clear hK7
          unfold q39_30
          refine step_call (F := 21) (args := ?arc37_68889) rfl ?hrc37_68889 ?hcc37_68889
          case hrc37_68889 => go_simp; try with_reducible rfl
          refine (HTELL.out _ _ _ _ _ HB6.out HF16_6.out HF28_6.out).mono ?_
          rintro e7 V7 ⟨rfl, hg, hs⟩
          have HG := Lib.hid hg
          have HS7 := Lib.hid hs
          clear hg hs
          refine ⟨_, rfl, ?_⟩
          refine HK7.out _ _ HS7.out (fun _ => trivial) ?_
          clear HK7 K7
          try simp only [Act.put, List.setIfInBounds_toArray, List.set_cons_zero, List.set_cons_succ]
          exact wpAnyC_done (by kernel_rfl) (hKK.out _ _ _ _ _ _ _ _ _ _ _ _ _ _ _ _ _ _ _ _ _ _ _ _ _ _ _ _ _ _ _ _ HG.out) _
        · intro K4 hK4
          have HK4 := Lib.hid hK4
          clear hK4
          unfold q39_27
          refine step_eq rfl (v := .slice (some ⟨V3.heap.size, 0, none⟩) 3 3) (w' := V3.alloc (.cells #[.slice none 0 c, .slice (some ⟨V2.heap.size, 0, none⟩) 1 1, .slice none 0 c] 42)) ?hrl38_59650 ?hnl38_59650
          case hrl38_59650 => go_simp; try with_reducible rfl
          have HA4 := Lib.hid (show Below V3.heap.size V3 (V3.alloc (.cells #[.slice none 0 c, .slice (some ⟨V2.heap.size, 0, none⟩) 1 1, .slice none 0 c] 42)) from (Below.refl _ _).alloc (Nat.le_refl _) _)
          have HB4 := Lib.hid (below_then HB3.out HA4.out)
          have HS4 := Lib.hid (HS3.out.keep HA4.out)
          have HR10_4 := Lib.hid (HR10_3.out.below HA4.out)
          have HR15_4 := Lib.hid (HR15_3.out.below HA4.out)
          have HR22_4 := Lib.hid (HR22_3.out.below HA4.out)
          have HR27_4 := Lib.hid (show Rd (V3.alloc (.cells #[.slice none 0 c, .slice (some ⟨V2.heap.size, 0, none⟩) 1 1, .slice none 0 c] 42)) 1 (some ⟨V3.heap.size, 0, none⟩) 3 [.slice none 0 c, .slice (some ⟨V2.heap.size, 0, none⟩) 1 1, .slice none 0 c] from Rd.lit (size := 1) (n := 3) V3 #[.slice none 0 c, .slice (some ⟨V2.heap.size, 0, none⟩) 1 1, .slice none 0 c] _ rfl (fr := (0, 0)))
          refine HK4.out _ _ HS4.out (fun _ => trivial) ?_
          clear HK4 K4
          generalize V3.alloc (.cells #[.slice none 0 c, .slice (some ⟨V2.heap.size, 0, none⟩) 1 1, .slice none 0 c] 42) = V4 at HB4 HS4 HR10_4 HR15_4 HR22_4 HR27_4 HA4 ⊢
          try simp only [Act.put, List.setIfInBounds_toArray, List.set_cons_zero, List.set_cons_succ]
          refine wpAnyC_one (i := 16) (o := q39_16) (by kernel_rfl) rfl ?_
          intro K5 hK5
          have HK5 := Lib.hid hK5
          clear hK5
          unfold q39_16
          refine step_call (F := 60) (args := ?arc39_59650) rfl ?hrc39_59650 ?hcc39_59650
          case hrc39_59650 => go_simp; try with_reducible rfl
          refine (HCS.out _ _ _ HB4.out HR10_4.out HR15_4.out).mono ?_
          rintro e5 V5 ⟨Ar5, cr5, rfl, hf, hb⟩
          have HA5 := Lib.hid hb
          have HF16_5 := Lib.hid hf
          clear hb hf
          refine ⟨_, rfl, ?_⟩
          have HB5 := Lib.hid (below_then HB4.out HA5.out)
          have HS5 := Lib.hid (HS4.out.keep HA5.out)
          have HR10_5 := Lib.hid (HR10_4.out.below HA5.out)
          have HR15_5 := Lib.hid (HR15_4.out.below HA5.out)
          have HR22_5 := Lib.hid (HR22_4.out.below HA5.out)
          have HR27_5 := Lib.hid (HR27_4.out.below HA5.out)
          refine HK5.out _ _ HS5.out (fun _ => trivial) ?_
          clear HK5 K5
          try simp only [Act.put, List.setIfInBounds_toArray, List.set_cons_zero, List.set_cons_succ]
          refine wpAnyC_one (i := 28) (o := q39_28) (by kernel_rfl) rfl ?_
          intro K6 hK6
          have HK6 := Lib.hid hK6
          clear hK6
          unfold q39_28
          refine step_call (F := 61) (args := ?arc40_59650) rfl ?hrc40_59650 ?hcc40_59650
          case hrc40_59650 => go_simp; try with_reducible rfl
          refine (HCV.out _ _ _ HB5.out HR22_5.out HR27_5.out).mono ?_
          rintro e6 V6 ⟨Ar6, cr6, rfl, hf, hb⟩
          have HA6 := Lib.hid hb
          have HF28_6 := Lib.hid hf
          clear hb hf
          refine ⟨_, rfl, ?_⟩
          have HB6 := Lib.hid (below_then HB5.out HA6.out)
          have HS6 := Lib.hid (HS5.out.keep HA6.out)
          have HR10_6 := Lib.hid (HR10_5.out.below HA6.out)
          have HR15_6 := Lib.hid (HR15_5.out.below HA6.out)
          have HR22_6 := Lib.hid (HR22_5.out.below HA6.out)
          have HR27_6 := Lib.hid (HR27_5.out.below HA6.out)
          have HF16_6 := Lib.hid (HF16_5.out.below HA6.out)
          refine HK6.out _ _ HS6.out (fun _ => trivial) ?_
          clear HK6 K6
          try simp only [Act.put, List.setIfInBounds_toArray, List.set_cons_zero, List.set_cons_succ]
          refine wpAnyC_takeY (i := 29) (oi := q39_29) (v := ?vx41_59650) (by kernel_rfl) (by kernel_rfl) (by kernel_rfl) (by kernel_rfl) ⟨HS6.out, fun _ => trivial⟩ rfl (fun c a w h => hQp c a _ _ w h) rfl ?hyx41_59650 ?restx41_59650
          case hyx41_59650 => intro W hSw; obtain ⟨s0, s1, s2, s3, s4, s5, s6, s7, s8, s9⟩ := hSw; unfold q39_29; go_simp; try with_reducible rfl
          try simp only [q39_29, Act.put, List.setIfInBounds_toArray, List.set_cons_zero, List.set_cons_succ]
          refine wpAnyC_one (i := 30) (o := q39_30) (by kernel_rfl) rfl ?_
          intro K7 hK7
          have HK7 := Lib.hid hK7
          clear hK7
          unfold q39_30
          refine step_call (F := 21) (args := ?arc42_59650) rfl ?hrc42_59650 ?hcc42_59650
          case hrc42_59650 => go_simp; try with_reducible rfl
          refine (HTELL.out _ _ _ _ _ HB6.out HF16_6.out HF28_6.out).mono ?_
          rintro e7 V7 ⟨rfl, hg, hs⟩
          have HG := Lib.hid hg
          have HS7 := Lib.hid hs
          clear hg hs
          refine ⟨_, rfl, ?_⟩
          refine HK7.out _ _ HS7.out (fun _ => trivial) ?_
          clear HK7 K7
          try simp only [Act.put, List.setIfInBounds_toArray, List.set_cons_zero, List.set_cons_succ]
          exact wpAnyC_done (by kernel_rfl) (hKK.out _ _ _ _ _ _ _ _ _ _ _ _ _ _ _ _ _ _ _ _ _ _ _ _ _ _ _ _ _ _ _ _ HG.out) _
    · intro K2 hK2
      have HK2 := Lib.hid hK2
      clear hK2
      unfold q39_22
      refine step_eq rfl (v := .slice (some ⟨V1.heap.size, 0, none⟩) 1 1) (w' := V1.alloc (.cells #[.int .i64 z.sort, .int .i64 z.n, .string (bstr z.s), .slice LAz z.labels.length lcz, .slice Az z.l.length cz, .pointer pz] 45)) ?hrl43_69017 ?hnl43_69017
      case hrl43_69017 => go_simp; try with_reducible rfl
      have HA2 := Lib.hid (show Below V1.heap.size V1 (V1.alloc (.cells #[.int .i64 z.sort, .int .i64 z.n, .string (bstr z.s), .slice LAz z.labels.length lcz, .slice Az z.l.length cz, .pointer pz] 45)) from (Below.refl _ _).alloc (Nat.le_refl _) _)
      have HB2 := Lib.hid (below_then HB1.out HA2.out)
      have HS2 := Lib.hid (HS1.out.keep HA2.out)
      have HR10_2 := Lib.hid (HR10_1.out.below HA2.out)
      have HR22_2 := Lib.hid (show Rd (V1.alloc (.cells #[.int .i64 z.sort, .int .i64 z.n, .string (bstr z.s), .slice LAz z.labels.length lcz, .slice Az z.l.length cz, .pointer pz] 45)) 6 (some ⟨V1.heap.size, 0, none⟩) 1 [.int .i64 z.sort, .int .i64 z.n, .string (bstr z.s), .slice LAz z.labels.length lcz, .slice Az z.l.length cz, .pointer pz] from Rd.lit (size := 6) (n := 1) V1 #[.int .i64 z.sort, .int .i64 z.n, .string (bstr z.s), .slice LAz z.labels.length lcz, .slice Az z.l.length cz, .pointer pz] _ rfl (fr := (0, 0)))
      refine HK2.out _ _ HS2.out (fun _ => trivial) ?_
      clear HK2 K2
      generalize V1.alloc (.cells #[.int .i64 z.sort, .int .i64 z.n, .string (bstr z.s), .slice LAz z.labels.length lcz, .slice Az z.l.length cz, .pointer pz] 45) = V2 at HB2 HS2 HR10_2 HR22_2 HA2 ⊢
      try simp only [Act.put, List.setIfInBounds_toArray, List.set_cons_zero, List.set_cons_succ]
      refine wpAnyC_two (i := 15) (i' := 27) (o := q39_15) (o' := q39_27) (by kernel_rfl) rfl rfl ?_ ?_
      · intro K3 hK3
        have HK3 := Lib.hid hK3
        clear hK3
        unfold q39_15
        refine step_eq rfl (v := .slice (some ⟨V2.heap.size, 0, none⟩) 3 3) (w' := V2.alloc (.cells #[.slice none 0 lc, .slice (some ⟨W9.heap.size, 0, none⟩) 1 1, .slice none 0 lc] 22)) ?hrl44_68889 ?hnl44_68889
        case hrl44_68889 => go_simp; try with_reducible rfl
        have HA3 := Lib.hid (show Below V2.heap.size V2 (V2.alloc (.cells #[.slice none 0 lc, .slice (some ⟨W9.heap.size, 0, none⟩) 1 1, .slice none 0 lc] 22)) from (Below.refl _ _).alloc (Nat.le_refl _) _)
        have HB3 := Lib.hid (below_then HB2.out HA3.out)
        have HS3 := Lib.hid (HS2.out.keep HA3.out)
        have HR10_3 := Lib.hid (HR10_2.out.below HA3.out)
        have HR22_3 := Lib.hid (HR22_2.out.below HA3.out)
        have HR15_3 := Lib.hid (show Rd (V2.alloc (.cells #[.slice none 0 lc, .slice (some ⟨W9.heap.size, 0, none⟩) 1 1, .slice none 0 lc] 22)) 1 (some ⟨V2.heap.size, 0, none⟩) 3 [.slice none 0 lc, .slice (some ⟨W9.heap.size, 0, none⟩) 1 1, .slice none 0 lc] from Rd.lit (size := 1) (n := 3) V2 #[.slice none 0 lc, .slice (some ⟨W9.heap.size, 0, none⟩) 1 1, .slice none 0 lc] _ rfl (fr := (0, 0)))
        refine HK3.out _ _ HS3.out (fun _ => trivial) ?_
        clear HK3 K3
        generalize V2.alloc (.cells #[.slice none 0 lc, .slice (some ⟨W9.heap.size, 0, none⟩) 1 1, .slice none 0 lc] 22) = V3 at HB3 HS3 HR10_3 HR22_3 HR15_3 HA3 ⊢
        try simp only [Act.put, List.setIfInBounds_toArray, List.set_cons_zero, List.set_cons_succ]
        refine wpAnyC_two (i := 16) (i' := 27) (o := q39_16) (o' := q39_27) (by kernel_rfl) rfl rfl ?_ ?_
        · intro K4 hK4
          have HK4 := Lib.hid hK4
          clear hK4
          unfold q39_16
          refine step_call (F := 60) (args := ?arc45_58690) rfl ?hrc45_58690 ?hcc45_58690
          case hrc45_58690 => go_simp; try with_reducible rfl
          refine (HCS.out _ _ _ HB3.out HR10_3.out HR15_3.out).mono ?_
          rintro e4 V4 ⟨Ar4, cr4, rfl, hf, hb⟩
          have HA4 := Lib.hid hb
          have HF16_4 := Lib.hid hf
          clear hb hf
          refine ⟨_, rfl, ?_⟩
          have HB4 := Lib.hid (below_then HB3.out HA4.out)
          have HS4 := Lib.hid (HS3.out.keep HA4.out)
          have HR10_4 := Lib.hid (HR10_3.out.below HA4.out)
          have HR22_4 := Lib.hid (HR22_3.out.below HA4.out)
          have HR15_4 := Lib.hid (HR15_3.out.below HA4.out)
          refine HK4.out _ _ HS4.out (fun _ => trivial) ?_
          clear HK4 K4
          try simp only [Act.put, List.setIfInBounds_toArray, List.set_cons_zero, List.set_cons_succ]
          refine wpAnyC_one (i := 27) (o := q39_27) (by kernel_rfl) rfl ?_
          intro K5 hK5
          have HK5 := Lib.hid hK5
          clear hK5
          unfold q39_27
          refine step_eq rfl (v := .slice (some ⟨V4.heap.size, 0, none⟩) 3 3) (w' := V4.alloc (.cells #[.slice none 0 c, .slice (some ⟨V1.heap.size, 0, none⟩) 1 1, .slice none 0 c] 42)) ?hrl46_58690 ?hnl46_58690
          case hrl46_58690 => go_simp; try with_reducible rfl
          have HA5 := Lib.hid (show Below V4.heap.size V4 (V4.alloc (.cells #[.slice none 0 c, .slice (some ⟨V1.heap.size, 0, none⟩) 1 1, .slice none 0 c] 42)) from (Below.refl _ _).alloc (Nat.le_refl _) _)
          have HB5 := Lib.hid (below_then HB4.out HA5.out)
          have HS5 := Lib.hid (HS4.out.keep HA5.out)
          have HR10_5 := Lib.hid (HR10_4.out.below HA5.out)
          have HR22_5 := Lib.hid (HR22_4.out.below HA5.out)
          have HR15_5 := Lib.hid (HR15_4.out.below HA5.out)
          have HF16_5 := Lib.hid (HF16_4.out.below HA5.out)
          have HR27_5 := Lib.hid (show Rd (V4.alloc (.cells #[.slice none 0 c, .slice (some ⟨V1.heap.size, 0, none⟩) 1 1, .slice none 0 c] 42)) 1 (some ⟨V4.heap.size, 0, none⟩) 3 [.slice none 0 c, .slice (some ⟨V1.heap.size, 0, none⟩) 1 1, .slice none 0 c] from Rd.lit (size := 1) (n := 3) V4 #[.slice none 0 c, .slice (some ⟨V1.heap.size, 0, none⟩) 1 1, .slice none 0 c] _ rfl (fr := (0, 0)))
          refine HK5.out _ _ HS5.out (fun _ => trivial) ?_
          clear HK5 K5
          generalize V4.alloc (.cells #[.slice none 0 c, .slice (some ⟨V1.heap.size, 0, none⟩) 1 1, .slice none 0 c] 42) = V5 at HB5 HS5 HR10_5 HR22_5 HR15_5 HF16_5 HR27_5 HA5 ⊢
          try simp only [Act.put, List.setIfInBounds_toArray, List.set_cons_zero, List.set_cons_succ]
          refine wpAnyC_one (i := 28) (o := q39_28) (by kernel_rfl) rfl ?_
          intro K6 hK6
          have HK6 := Lib.hid hK6
          clear hK6
          unfold q39_28
          refine step_call (F := 61) (args := ?arc47_58690) rfl ?hrc47_58690 ?hcc47_58690
          case hrc47_58690 => go_simp; try with_reducible rfl
          refine (HCV.out _ _ _ HB5.out HR22_5.out HR27_5.out).mono ?_
          rintro e6 V6 ⟨Ar6, cr6, rfl, hf, hb⟩
          have HA6 := Lib.hid hb
          have HF28_6 := Lib.hid hf
          clear hb hf
          refine ⟨_, rfl, ?_⟩
          have HB6 := Lib.hid (below_then HB5.out HA6.out)
          have HS6 := Lib.hid (HS5.out.keep HA6.out)
          have HR10_6 := Lib.hid (HR10_5.out.below HA6.out)
          have HR22_6 := Lib.hid (HR22_5.out.below HA6.out)
          have HR15_6 := Lib.hid (HR15_5.out.below HA6.out)
          have HR27_6 := Lib.hid (HR27_5.out.below HA6.out)
          have HF16_6 := Lib.hid (HF16_5.out.below HA6.out)
          refine HK6.out _ _ HS6.out (fun _ => trivial) ?_
          clear HK6 K6
          try simp only [Act.put, List.setIfInBounds_toArray, List.set_cons_zero, List.set_cons_succ]
          refine wpAnyC_takeY (i := 29) (oi := q39_29) (v := ?vx48_58690) (by kernel_rfl) (by kernel_rfl) (by kernel_rfl) (by kernel_rfl) ⟨HS6.out, fun _ => trivial⟩ rfl (fun c a w h => hQp c a _ _ w h) rfl ?hyx48_58690 ?restx48_58690
          case hyx48_58690 => intro W hSw; obtain ⟨s0, s1, s2, s3, s4, s5, s6, s7, s8, s9⟩ := hSw; unfold q39_29; go_simp; try with_reducible rfl
          try simp only [q39_29, Act.put, List.setIfInBounds_toArray, List.set_cons_zero, List.set_cons_succ]
          refine wpAnyC_one (i := 30) (o := q39_30) (by kernel_rfl) rfl ?_
          intro K7 hK7
          have HK7 := Lib.hid hK7
          clear hK7
          unfold q39_30
          refine step_call (F := 21) (args := ?arc49_58690) rfl ?hrc49_58690 ?hcc49_58690
          case hrc49_58690 => go_simp; try with_reducible rfl
          refine (HTELL.out _ _ _ _ _ HB6.out HF16_6.out HF28_6.out).mono ?_
          rintro e7 V7 ⟨rfl, hg, hs⟩
          have HG := Lib.hid hg
          have HS7 := Lib.hid hs
          clear hg hs
          refine ⟨_, rfl, ?_⟩
          refine HK7.out _ _ HS7.out (fun _ => trivial) ?_
          clear HK7 K7
          try simp only [Act.put, List.setIfInBounds_toArray, List.set_cons_zero, List.set_cons_succ]
          exact wpAnyC_done (by kernel_rfl) (hKK.out _ _ _ _ _ _ _ _ _ _ _ _ _ _ _ _ _ _ _ _ _ _ _ _ _ _ _ _ _ _ _ _ HG.out) _
        · intro K4 hK4
          have HK4 := Lib.hid hK4
          clear hK4
          unfold q39_27
          refine step_eq rfl (v := .slice (some ⟨V3.heap.size, 0, none⟩) 3 3) (w' := V3.alloc (.cells #[.slice none 0 c, .slice (some ⟨V1.heap.size, 0, none⟩) 1 1, .slice none 0 c] 42)) ?hrl50_56194 ?hnl50_56194
          case hrl50_56194 => go_simp; try with_reducible rfl
          have HA4 := Lib.hid (show Below V3.heap.size V3 (V3.alloc (.cells #[.slice none 0 c, .slice (some ⟨V1.heap.size, 0, none⟩) 1 1, .slice none 0 c] 42)) from (Below.refl _ _).alloc (Nat.le_refl _) _)
          have HB4 := Lib.hid (below_then HB3.out HA4.out)
          have HS4 := Lib.hid (HS3.out.keep HA4.out)
          have HR10_4 := Lib.hid (HR10_3.out.below HA4.out)
          have HR22_4 := Lib.hid (HR22_3.out.below HA4.out)
          have HR15_4 := Lib.hid (HR15_3.out.below HA4.out)
          have HR27_4 := Lib.hid (show Rd (V3.alloc (.cells #[.slice none 0 c, .slice (some ⟨V1.heap.size, 0, none⟩) 1 1, .slice none 0 c] 42)) 1 (some ⟨V3.heap.size, 0, none⟩) 3 [.slice none 0 c, .slice (some ⟨V1.heap.size, 0, none⟩) 1 1, .slice none 0 c] from Rd.lit (size := 1) (n := 3) V3 #[.slice none 0 c, .slice (some ⟨V1.heap.size, 0, none⟩) 1 1, .slice none 0 c] _ rfl (fr := (0, 0)))
          refine HK4.out _ _ HS4.out (fun _ => trivial) ?_
          clear HK4 K4
          generalize V3.alloc (.cells #[.slice none 0 c, .slice (some ⟨V1.heap.size, 0, none⟩) 1 1, .slice none 0 c] 42) = V4 at HB4 HS4 HR10_4 HR22_4 HR15_4 HR27_4 HA4 ⊢
          try simp only [Act.put, List.setIfInBounds_toArray, List.set_cons_zero, List.set_cons_succ]
          refine wpAnyC_one (i := 16) (o := q39_16) (by kernel_rfl) rfl ?_
          intro K5 hK5
          have HK5 := Lib.hid hK5
          clear hK5
          unfold q39_16
          refine step_call (F := 60) (args := ?arc51_56194) rfl ?hrc51_56194 ?hcc51_56194
          case hrc51_56194 => go_simp; try with_reducible rfl
          refine (HCS.out _ _ _ HB4.out HR10_4.out HR15_4.out).mono ?_
          rintro e5 V5 ⟨Ar5, cr5, rfl, hf, hb⟩
          have HA5 := Lib.hid hb
          have HF16_5 := Lib.hid hf
          clear hb hf
          refine ⟨_, rfl, ?_⟩
          have HB5 := Lib.hid (below_then HB4.out HA5.out)
          have HS5 := Lib.hid (HS4.out.keep HA5.out)
          have HR10_5 := Lib.hid (HR10_4.out.below HA5.out)
          have HR22_5 := Lib.hid (HR22_4.out.below HA5.out)
          have HR15_5 := Lib.hid (HR15_4.out.below HA5.out)
          have HR27_5 := Lib.hid (HR27_4.out.below HA5.out)
          refine HK5.out _ _ HS5.out (fun _ => trivial) ?_
          clear HK5 K5
          try simp only [Act.put, List.setIfInBounds_toArray, List.set_cons_zero, List.set_cons_succ]
          refine wpAnyC_one (i := 28) (o := q39_28) (by kernel_rfl) rfl ?_
          intro K6 hK6
          have HK6 := Lib.hid hK6
          clear hK6
          unfold q39_28
          refine step_call (F := 61) (args := ?arc52_56194) rfl ?hrc52_56194 ?hcc52_56194
          case hrc52_56194 => go_simp; try with_reducible rfl
          refine (HCV.out _ _ _ HB5.out HR22_5.out HR27_5.out).mono ?_
          rintro e6 V6 ⟨Ar6, cr6, rfl, hf, hb⟩
          have HA6 := Lib.hid hb
          have HF28_6 := Lib.hid hf
          clear hb hf
          refine ⟨_, rfl, ?_⟩
          have HB6 := Lib.hid (below_then HB5.out HA6.out)
          have HS6 := Lib.hid (HS5.out.keep HA6.out)
          have HR10_6 := Lib.hid (HR10_5.out.below HA6.out)
          have HR22_6 := Lib.hid (HR22_5.out.below HA6.out)
          have HR15_6 := Lib.hid (HR15_5.out.below HA6.out)
          have HR27_6 := Lib.hid (HR27_5.out.below HA6.out)
          have HF16_6 := Lib.hid (HF16_5.out.below HA6.out)
          refine HK6.out _ _ HS6.out (fun _ => trivial) ?_
          clear HK6 K6
          try simp only [Act.put, List.setIfInBounds_toArray, List.set_cons_zero, List.set_cons_succ]
          refine wpAnyC_takeY (i := 29) (oi := q39_29) (v := ?vx53_56194) (by kernel_rfl) (by kernel_rfl) (by kernel_rfl) (by kernel_rfl) ⟨HS6.out, fun _ => trivial⟩ rfl (fun c a w h => hQp c a _ _ w h) rfl ?hyx53_56194 ?restx53_56194
          case hyx53_56194 => intro W hSw; obtain ⟨s0, s1, s2, s3, s4, s5, s6, s7, s8, s9⟩ := hSw; unfold q39_29; go_simp; try with_reducible rfl
          try simp only [q39_29, Act.put, List.setIfInBounds_toArray, List.set_cons_zero, List.set_cons_succ]
          refine wpAnyC_one (i := 30) (o := q39_30) (by kernel_rfl) rfl ?_
          intro K7 hK7
          have HK7 := Lib.hid hK7
          clear hK7
          unfold q39_30
          refine step_call (F := 21) (args := ?arc54_56194) rfl ?hrc54_56194 ?hcc54_56194
          case hrc54_56194 => go_simp; try with_reducible rfl
          refine (HTELL.out _ _ _ _ _ HB6.out HF16_6.out HF28_6.out).mono ?_
          rintro e7 V7 ⟨rfl, hg, hs⟩
          have HG := Lib.hid hg
          have HS7 := Lib.hid hs
          clear hg hs
          refine ⟨_, rfl, ?_⟩
          refine HK7.out _ _ HS7.out (fun _ => trivial) ?_
          clear HK7 K7
          try simp only [Act.put, List.setIfInBounds_toArray, List.set_cons_zero, List.set_cons_succ]
          exact wpAnyC_done (by kernel_rfl) (hKK.out _ _ _ _ _ _ _ _ _ _ _ _ _ _ _ _ _ _ _ _ _ _ _ _ _ _ _ _ _ _ _ _ HG.out) _
      · intro K3 hK3
        have HK3 := Lib.hid hK3
        clear hK3
        unfold q39_27
        refine step_eq rfl (v := .slice (some ⟨V2.heap.size, 0, none⟩) 3 3) (w' := V2.alloc (.cells #[.slice none 0 c, .slice (some ⟨V1.heap.size, 0, none⟩) 1 1, .slice none 0 c] 42)) ?hrl55_56194 ?hnl55_56194
        case hrl55_56194 => go_simp; try with_reducible rfl
        have HA3 := Lib.hid (show Below V2.heap.size V2 (V2.alloc (.cells #[.slice none 0 c, .slice (some ⟨V1.heap.size, 0, none⟩) 1 1, .slice none 0 c] 42)) from (Below.refl _ _).alloc (Nat.le_refl _) _)
        have HB3 := Lib.hid (below_then HB2.out HA3.out)
        have HS3 := Lib.hid (HS2.out.keep HA3.out)
        have HR10_3 := Lib.hid (HR10_2.out.below HA3.out)
        have HR22_3 := Lib.hid (HR22_2.out.below HA3.out)
        have HR27_3 := Lib.hid (show Rd (V2.alloc (.cells #[.slice none 0 c, .slice (some ⟨V1.heap.size, 0, none⟩) 1 1, .slice none 0 c] 42)) 1 (some ⟨V2.heap.size, 0, none⟩) 3 [.slice none 0 c, .slice (some ⟨V1.heap.size, 0, none⟩) 1 1, .slice none 0 c] from Rd.lit (size := 1) (n := 3) V2 #[.slice none 0 c, .slice (some ⟨V1.heap.size, 0, none⟩) 1 1, .slice none 0 c] _ rfl (fr := (0, 0)))
        refine HK3.out _ _ HS3.out (fun _ => trivial) ?_
        clear HK3 K3
        generalize V2.alloc (.cells #[.slice none 0 c, .slice (some ⟨V1.heap.size, 0, none⟩) 1 1, .slice none 0 c] 42) = V3 at HB3 HS3 HR10_3 HR22_3 HR27_3 HA3 ⊢
        try simp only [Act.put, List.setIfInBounds_toArray, List.set_cons_zero, List.set_cons_succ]
        refine wpAnyC_one (i := 15) (o := q39_15) (by kernel_rfl) rfl ?_
        intro K4 hK4
        have HK4 := Lib.hid hK4
        clear hK4
        unfold q39_15
        refine step_eq rfl (v := .slice (some ⟨V3.heap.size, 0, none⟩) 3 3) (w' := V3.alloc (.cells #[.slice none 0 lc, .slice (some ⟨W9.heap.size, 0, none⟩) 1 1, .slice none 0 lc] 22)) ?hrl56_56194 ?hnl56_56194
        case hrl56_56194 => go_simp; try with_reducible rfl
        have HA4 := Lib.hid (show Below V3.heap.size V3 (V3.alloc (.cells #[.slice none 0 lc, .slice (some ⟨W9.heap.size, 0, none⟩) 1 1, .slice none 0 lc] 22)) from (Below.refl _ _).alloc (Nat.le_refl _) _)
        have HB4 := Lib.hid (below_then HB3.out HA4.out)
        have HS4 := Lib.hid (HS3.out.keep HA4.out)
        have HR10_4 := Lib.hid (HR10_3.out.below HA4.out)
        have HR22_4 := Lib.hid (HR22_3.out.below HA4.out)
        have HR27_4 := Lib.hid (HR27_3.out.below HA4.out)
        have HR15_4 := Lib.hid (show Rd (V3.alloc (.cells #[.slice none 0 lc, .slice (some ⟨W9.heap.size, 0, none⟩) 1 1, .slice none 0 lc] 22)) 1 (some ⟨V3.heap.size, 0, none⟩) 3 [.slice none 0 lc, .slice (some ⟨W9.heap.size, 0, none⟩) 1 1, .slice none 0 lc] from Rd.lit (size := 1) (n := 3) V3 #[.slice none 0 lc, .slice (some ⟨W9.heap.size, 0, none⟩) 1 1, .slice none 0 lc] _ rfl (fr := (0, 0)))
        refine HK4.out _ _ HS4.out (fun _ => trivial) ?_
        clear HK4 K4
        generalize V3.alloc (.cells #[.slice none 0 lc, .slice (some ⟨W9.heap.size, 0, none⟩) 1 1, .slice none 0 lc] 22) = V4 at HB4 HS4 HR10_4 HR22_4 HR27_4 HR15_4 HA4 ⊢
        try simp only [Act.put, List.setIfInBounds_toArray, List.set_cons_zero, List.set_cons_succ]
        refine wpAnyC_one (i := 16) (o := q39_16) (by kernel_rfl) rfl ?_
        intro K5 hK5
        have HK5 := Lib.hid hK5
        clear hK5
        unfold q39_16
        refine step_call (F := 60) (args := ?arc57_56194) rfl ?hrc57_56194 ?hcc57_56194
        case hrc57_56194 => go_simp; try with_reducible rfl
        refine (HCS.out _ _ _ HB4.out HR10_4.out HR15_4.out).mono ?_
        rintro e5 V5 ⟨Ar5, cr5, rfl, hf, hb⟩
        have HA5 := Lib.hid hb
        have HF16_5 := Lib.hid hf
        clear hb hf
        refine ⟨_, rfl, ?_⟩
        have HB5 := Lib.hid (below_then HB4.out HA5.out)
        have HS5 := Lib.hid (HS4.out.keep HA5.out)
        have HR10_5 := Lib.hid (HR10_4.out.below HA5.out)
        have HR22_5 := Lib.hid (HR22_4.out.below HA5.out)
        have HR27_5 := Lib.hid (HR27_4.out.below HA5.out)
        have HR15_5 := Lib.hid (HR15_4.out.below HA5.out)
        refine HK5.out _ _ HS5.out (fun _ => trivial) ?_
        clear HK5 K5
        try simp only [Act.put, List.setIfInBounds_toArray, List.set_cons_zero, List.set_cons_succ]
        refine wpAnyC_one (i := 28) (o := q39_28) (by kernel_rfl) rfl ?_
        intro K6 hK6
        have HK6 := Lib.hid hK6
        clear hK6
        unfold q39_28
        refine step_call (F := 61) (args := ?arc58_56194) rfl ?hrc58_56194 ?hcc58_56194
        case hrc58_56194 => go_simp; try with_reducible rfl
        refine (HCV.out _ _ _ HB5.out HR22_5.out HR27_5.out).mono ?_
        rintro e6 V6 ⟨Ar6, cr6, rfl, hf, hb⟩
        have HA6 := Lib.hid hb
        have HF28_6 := Lib.hid hf
        clear hb hf
        refine ⟨_, rfl, ?_⟩
        have HB6 := Lib.hid (below_then HB5.out HA6.out)
        have HS6 := Lib.hid (HS5.out.keep HA6.out)
        have HR10_6 := Lib.hid (HR10_5.out.below HA6.out)
        have HR22_6 := Lib.hid (HR22_5.out.below HA6.out)
        have HR27_6 := Lib.hid (HR27_5.out.below HA6.out)
        have HR15_6 := Lib.hid (HR15_5.out.below HA6.out)
        have HF16_6 := Lib.hid (HF16_5.out.below HA6.out)
        refine HK6.out _ _ HS6.out (fun _ => trivial) ?_
        clear HK6 K6
        try simp only [Act.put, List.setIfInBounds_toArray, List.set_cons_zero, List.set_cons_succ]
        refine wpAnyC_takeY (i := 29) (oi := q39_29) (v := ?vx59_56194) (by kernel_rfl) (by kernel_rfl) (by kernel_rfl) (by kernel_rfl) ⟨HS6.out, fun _ => trivial⟩ rfl (fun c a w h => hQp c a _ _ w h) rfl ?hyx59_56194 ?restx59_56194
        case hyx59_56194 => intro W hSw; obtain ⟨s0, s1, s2, s3, s4, s5, s6, s7, s8, s9⟩ := hSw; unfold q39_29; go_simp; try with_reducible rfl
        try simp only [q39_29, Act.put, List.setIfInBounds_toArray, List.set_cons_zero, List.set_cons_succ]
        refine wpAnyC_one (i := 30) (o := q39_30) (by kernel_rfl) rfl ?_
        intro K7 hK7
        have HK7 := Lib.hid hK7
        clear hK7
        unfold q39_30
        refine step_call (F := 21) (args := ?arc60_56194) rfl ?hrc60_56194 ?hcc60_56194
        case hrc60_56194 => go_simp; try with_reducible rfl
        refine (HTELL.out _ _ _ _ _ HB6.out HF16_6.out HF28_6.out).mono ?_
        rintro e7 V7 ⟨rfl, hg, hs⟩
        have HG := Lib.hid hg
        have HS7 := Lib.hid hs
        clear hg hs
        refine ⟨_, rfl, ?_⟩
        refine HK7.out _ _ HS7.out (fun _ => trivial) ?_
        clear HK7 K7
        try simp only [Act.put, List.setIfInBounds_toArray, List.set_cons_zero, List.set_cons_succ]
        exact wpAnyC_done (by kernel_rfl) (hKK.out _ _ _ _ _ _ _ _ _ _ _ _ _ _ _ _ _ _ _ _ _ _ _ _ _ _ _ _ _ _ _ _ HG.out) _
  · intro K1 hK1
    have HK1 := Lib.hid hK1
    clear hK1
    unfold q39_22
    refine step_eq rfl (v := .slice (some ⟨W9.heap.size, 0, none⟩) 1 1) (w' := W9.alloc (.cells #[.int .i64 z.sort, .int .i64 z.n, .string (bstr z.s), .slice LAz z.labels.length lcz, .slice Az z.l.length cz, .pointer pz] 45)) ?hrl61_69017 ?hnl61_69017
    case hrl61_69017 => go_simp; try with_reducible rfl
    have HA1 := Lib.hid (show Below W9.heap.size W9 (W9.alloc (.cells #[.int .i64 z.sort, .int .i64 z.n, .string (bstr z.s), .slice LAz z.labels.length lcz, .slice Az z.l.length cz, .pointer pz] 45)) from (Below.refl _ _).alloc (Nat.le_refl _) _)
    have HB1 := Lib.hid (below_then HB0.out HA1.out)
    have HS1 := Lib.hid (HS0.out.keep HA1.out)
    have HR22_1 := Lib.hid (show Rd (W9.alloc (.cells #[.int .i64 z.sort, .int .i64 z.n, .string (bstr z.s), .slice LAz z.labels.length lcz, .slice Az z.l.length cz, .pointer pz] 45)) 6 (some ⟨W9.heap.size, 0, none⟩) 1 [.int .i64 z.sort, .int .i64 z.n, .string (bstr z.s), .slice LAz z.labels.length lcz, .slice Az z.l.length cz, .pointer pz] from Rd.lit (size := 6) (n := 1) W9 #[.int .i64 z.sort, .int .i64 z.n, .string (bstr z.s), .slice LAz z.labels.length lcz, .slice Az z.l.length cz, .pointer pz] _ rfl (fr := (0, 0)))
    refine HK1.out _ _ HS1.out (fun _ => trivial) ?_
    clear HK1 K1
    generalize W9.alloc (.cells #[.int .i64 z.sort, .int .i64 z.n, .string (bstr z.s), .slice LAz z.labels.length lcz, .slice Az z.l.length cz, .pointer pz] 45) = V1 at HB1 HS1 HR22_1 HA1 ⊢
    try simp only [Act.put, List.setIfInBounds_toArray, List.set_cons_zero, List.set_cons_succ]
    refine wpAnyC_two (i := 10) (i' := 27) (o := q39_10) (o' := q39_27) (by kernel_rfl) rfl rfl ?_ ?_
    · intro K2 hK2
      have HK2 := Lib.hid hK2
      clear hK2
      unfold q39_10
      refine step_eq rfl (v := .slice (some ⟨V1.heap.size, 0, none⟩) 1 1) (w' := V1.alloc (.cells #[.string (bstr x)] 9)) ?hrl62_68889 ?hnl62_68889
      case hrl62_68889 => go_simp; try with_reducible rfl
      have HA2 := Lib.hid (show Below V1.heap.size V1 (V1.alloc (.cells #[.string (bstr x)] 9)) from (Below.refl _ _).alloc (Nat.le_refl _) _)
      have HB2 := Lib.hid (below_then HB1.out HA2.out)
      have HS2 := Lib.hid (HS1.out.keep HA2.out)
      have HR22_2 := Lib.hid (HR22_1.out.below HA2.out)
      have HR10_2 := Lib.hid (show Rd (V1.alloc (.cells #[.string (bstr x)] 9)) 1 (some ⟨V1.heap.size, 0, none⟩) 1 [.string (bstr x)] from Rd.lit (size := 1) (n := 1) V1 #[.string (bstr x)] _ rfl (fr := (0, 0)))
      refine HK2.out _ _ HS2.out (fun _ => trivial) ?_
      clear HK2 K2
      generalize V1.alloc (.cells #[.string (bstr x)] 9) = V2 at HB2 HS2 HR22_2 HR10_2 HA2 ⊢
      try simp only [Act.put, List.setIfInBounds_toArray, List.set_cons_zero, List.set_cons_succ]
      refine wpAnyC_two (i := 15) (i' := 27) (o := q39_15) (o' := q39_27) (by kernel_rfl) rfl rfl ?_ ?_
      · intro K3 hK3
        have HK3 := Lib.hid hK3
        clear hK3
        unfold q39_15
        refine step_eq rfl (v := .slice (some ⟨V2.heap.size, 0, none⟩) 3 3) (w' := V2.alloc (.cells #[.slice none 0 lc, .slice (some ⟨V1.heap.size, 0, none⟩) 1 1, .slice none 0 lc] 22)) ?hrl63_21604 ?hnl63_21604
        case hrl63_21604 => go_simp; try with_reducible rfl
        have HA3 := Lib.hid (show Below V2.heap.size V2 (V2.alloc (.cells #[.slice none 0 lc, .slice (some ⟨V1.heap.size, 0, none⟩) 1 1, .slice none 0 lc] 22)) from (Below.refl _ _).alloc (Nat.le_refl _) _)
        have HB3 := Lib.hid (below_then HB2.out HA3.out)
        have HS3 := Lib.hid (HS2.out.keep HA3.out)
        have HR22_3 := Lib.hid (HR22_2.out.below HA3.out)
        have HR10_3 := Lib.hid (HR10_2.out.below HA3.out)
        have HR15_3 := Lib.hid (show Rd (V2.alloc (.cells #[.slice none 0 lc, .slice (some ⟨V1.heap.size, 0, none⟩) 1 1, .slice none 0 lc] 22)) 1 (some ⟨V2.heap.size, 0, none⟩) 3 [.slice none 0 lc, .slice (some ⟨V1.heap.size, 0, none⟩) 1 1, .slice none 0 lc] from Rd.lit (size := 1) (n := 3) V2 #[.slice none 0 lc, .slice (some ⟨V1.heap.size, 0, none⟩) 1 1, .slice none 0 lc] _ rfl (fr := (0, 0)))
        refine HK3.out _ _ HS3.out (fun _ => trivial) ?_
        clear HK3 K3
        generalize V2.alloc (.cells #[.slice none 0 lc, .slice (some ⟨V1.heap.size, 0, none⟩) 1 1, .slice none 0 lc] 22) = V3 at HB3 HS3 HR22_3 HR10_3 HR15_3 HA3 ⊢
        try simp only [Act.put, List.setIfInBounds_toArray, List.set_cons_zero, List.set_cons_succ]
        refine wpAnyC_two (i := 16) (i' := 27) (o := q39_16) (o' := q39_27) (by kernel_rfl) rfl rfl ?_ ?_
        · intro K4 hK4
          have HK4 := Lib.hid hK4
          clear hK4
          unfold q39_16
          refine step_call (F := 60) (args := ?arc64_56194) rfl ?hrc64_56194 ?hcc64_56194
          case hrc64_56194 => go_simp; try with_reducible rfl
          refine (HCS.out _ _ _ HB3.out HR10_3.out HR15_3.out).mono ?_
          rintro e4 V4 ⟨Ar4, cr4, rfl, hf, hb⟩
          have HA4 := Lib.hid hb
          have HF16_4 := Lib.hid hf
          clear hb hf
          refine ⟨_, rfl, ?_⟩
          have HB4 := Lib.hid (below_then HB3.out HA4.out)
          have HS4 := Lib.hid (HS3.out.keep HA4.out)
          have HR22_4 := Lib.hid (HR22_3.out.below HA4.out)
          have HR10_4 := Lib.hid (HR10_3.out.below HA4.out)
          have HR15_4 := Lib.hid (HR15_3.out.below HA4.out)
          refine HK4.out _ _ HS4.out (fun _ => trivial) ?_
          clear HK4 K4
          try simp only [Act.put, List.setIfInBounds_toArray, List.set_cons_zero, List.set_cons_succ]
          refine wpAnyC_one (i := 27) (o := q39_27) (by kernel_rfl) rfl ?_
          intro K5 hK5
          have HK5 := Lib.hid hK5
          clear hK5
          unfold q39_27
          refine step_eq rfl (v := .slice (some ⟨V4.heap.size, 0, none⟩) 3 3) (w' := V4.alloc (.cells #[.slice none 0 c, .slice (some ⟨W9.heap.size, 0, none⟩) 1 1, .slice none 0 c] 42)) ?hrl65_56194 ?hnl65_56194
          case hrl65_56194 => go_simp; try with_reducible rfl
          have HA5 := Lib.hid (show Below V4.heap.size V4 (V4.alloc (.cells #[.slice none 0 c, .slice (some ⟨W9.heap.size, 0, none⟩) 1 1, .slice none 0 c] 42)) from (Below.refl _ _).alloc (Nat.le_refl _) _)
          have HB5 := Lib.hid (below_then HB4.out HA5.out)
          have HS5 := Lib.hid (HS4.out.keep HA5.out)
          have HR22_5 := Lib.hid (HR22_4.out.below HA5.out)
          have HR10_5 := Lib.hid (HR10_4.out.below HA5.out)
          have HR15_5 := Lib.hid (HR15_4.out.below HA5.out)
          have HF16_5 := Lib.hid (HF16_4.out.below HA5.out)
          have HR27_5 := Lib.hid (show Rd (V4.alloc (.cells #[.slice none 0 c, .slice (some ⟨W9.heap.size, 0, none⟩) 1 1, .slice none 0 c] 42)) 1 (some ⟨V4.heap.size, 0, none⟩) 3 [.slice none 0 c, .slice (some ⟨W9.heap.size, 0, none⟩) 1 1, .slice none 0 c] from Rd.lit (size := 1) (n := 3) V4 #[.slice none 0 c, .slice (some ⟨W9.heap.size, 0, none⟩) 1 1, .slice none 0 c] _ rfl (fr := (0, 0)))
          refine HK5.out _ _ HS5.out (fun _ => trivial) ?_
          clear HK5 K5
          generalize V4.alloc (.cells #[.slice none 0 c, .slice (some ⟨W9.heap.size, 0, none⟩) 1 1, .slice none 0 c] 42) = V5 at HB5 HS5 HR22_5 HR10_5 HR15_5 HF16_5 HR27_5 HA5 ⊢
          try simp only [Act.put, List.setIfInBounds_toArray, List.set_cons_zero, List.set_cons_succ]
          refine wpAnyC_one (i := 28) (o := q39_28) (by kernel_rfl) rfl ?_
          intro K6 hK6
          have HK6 := Lib.hid hK6
          clear hK6
          unfold q39_28
          refine step_call (F := 61) (args := ?arc66_56194) rfl ?hrc66_56194 ?hcc66_56194
          case hrc66_56194 => go_simp; try with_reducible rfl
          refine (HCV.out _ _ _ HB5.out HR22_5.out HR27_5.out).mono ?_
          rintro e6 V6 ⟨Ar6, cr6, rfl, hf, hb⟩
          have HA6 := Lib.hid hb
          have HF28_6 := Lib.hid hf
          clear hb hf
          refine ⟨_, rfl, ?_⟩
          have HB6 := Lib.hid (below_then HB5.out HA6.out)
          have HS6 := Lib.hid (HS5.out.keep HA6.out)
          have HR22_6 := Lib.hid (HR22_5.out.below HA6.out)
          have HR10_6 := Lib.hid (HR10_5.out.below HA6.out)
          have HR15_6 := Lib.hid (HR15_5.out.below HA6.out)
          have HR27_6 := Lib.hid (HR27_5.out.below HA6.out)
          have HF16_6 := Lib.hid (HF16_5.out.below HA6.out)
          refine HK6.out _ _ HS6.out (fun _ => trivial) ?_
          clear HK6 K6
          try simp only [Act.put, List.setIfInBounds_toArray, List.set_cons_zero, List.set_cons_succ]
          refine wpAnyC_takeY (i := 29) (oi := q39_29) (v := ?vx67_56194) (by kernel_rfl) (by kernel_rfl) (by kernel_rfl) (by kernel_rfl) ⟨HS6.out, fun _ => trivial⟩ rfl (fun c a w h => hQp c a _ _ w h) rfl ?hyx67_56194 ?restx67_56194
          case hyx67_56194 => intro W hSw; obtain ⟨s0, s1, s2, s3, s4, s5, s6, s7, s8, s9⟩ := hSw; unfold q39_29; go_simp; try with_reducible rfl
          try simp only [q39_29, Act.put, List.setIfInBounds_toArray, List.set_cons_zero, List.set_cons_succ]
          refine wpAnyC_one (i := 30) (o := q39_30) (by kernel_rfl) rfl ?_
          intro K7 hK7
          have HK7 := Lib.hid hK7
          clear hK7
          unfold q39_30
          refine step_call (F := 21) (args := ?arc68_56194) rfl ?hrc68_56194 ?hcc68_56194
          case hrc68_56194 => go_simp; try with_reducible rfl
          refine (HTELL.out _ _ _ _ _ HB6.out HF16_6.out HF28_6.out).mono ?_
          rintro e7 V7 ⟨rfl, hg, hs⟩
          have HG := Lib.hid hg
          have HS7 := Lib.hid hs
          clear hg hs
          refine ⟨_, rfl, ?_⟩
          refine HK7.out _ _ HS7.out (fun _ => trivial) ?_
          clear HK7 K7
          try simp only [Act.put, List.setIfInBounds_toArray, List.set_cons_zero, List.set_cons_succ]
          exact wpAnyC_done (by kernel_rfl) (hKK.out _ _ _ _ _ _ _ _ _ _ _ _ _ _ _ _ _ _ _ _ _ _ _ _ _ _ _ _ _ _ _ _ HG.out) _
        · intro K4 hK4
          have HK4 := Lib.hid hK4
          clear hK4
          unfold q39_27
          refine step_eq rfl (v := .slice (some ⟨V3.heap.size, 0, none⟩) 3 3) (w' := V3.alloc (.cells #[.slice none 0 c, .slice (some ⟨W9.heap.size, 0, none⟩) 1 1, .slice none 0 c] 42)) ?hrl69_58562 ?hnl69_58562
          case hrl69_58562 => go_simp; try with_reducible rfl
          have HA4 := Lib.hid (show Below V3.heap.size V3 (V3.alloc (.cells #[.slice none 0 c, .slice (some ⟨W9.heap.size, 0, none⟩) 1 1, .slice none 0 c] 42)) from (Below.refl _ _).alloc (Nat.le_refl _) _)
          have HB4 := Lib.hid (below_then HB3.out HA4.out)
          have HS4 := Lib.hid (HS3.out.keep HA4.out)
          have HR22_4 := Lib.hid (HR22_3.out.below HA4.out)
          have HR10_4 := Lib.hid (HR10_3.out.below HA4.out)
          have HR15_4 := Lib.hid (HR15_3.out.below HA4.out)
          have HR27_4 := Lib.hid (show Rd (V3.alloc (.cells #[.slice none 0 c, .slice (some ⟨W9.heap.size, 0, none⟩) 1 1, .slice none 0 c] 42)) 1 (some ⟨V3.heap.size, 0, none⟩) 3 [.slice none 0 c, .slice (some ⟨W9.heap.size, 0, none⟩) 1 1, .slice none 0 c] from Rd.lit (size := 1) (n := 3) V3 #[.slice none 0 c, .slice (some ⟨W9.heap.size, 0, none⟩) 1 1, .slice none 0 c] _ rfl (fr := (0, 0)))
          refine HK4.out _ _ HS4.out (fun _ => trivial) ?_
          clear HK4 K4
          generalize V3.alloc (.cells #[.slice none 0 c, .slice (some ⟨W9.heap.size, 0, none⟩) 1 1, .slice none 0 c] 42) = V4 at HB4 HS4 HR22_4 HR10_4 HR15_4 HR27_4 HA4 ⊢
          try simp only [Act.put, List.setIfInBounds_toArray, List.set_cons_zero, List.set_cons_succ]
          refine wpAnyC_one (i := 16) (o := q39_16) (by kernel_rfl) rfl ?_
          intro K5 hK5
          have HK5 := Lib.hid hK5
          clear hK5
          unfold q39_16
          refine step_call (F := 60) (args := ?arc70_58562) rfl ?hrc70_58562 ?hcc70_58562
          case hrc70_58562 => go_simp; try with_reducible rfl
          refine (HCS.out _ _ _ HB4.out HR10_4.out HR15_4.out).mono ?_
          rintro e5 V5 ⟨Ar5, cr5, rfl, hf, hb⟩
          have HA5 := Lib.hid hb
          have HF16_5 := Lib.hid hf
          clear hb hf
          refine ⟨_, rfl, ?_⟩
          have HB5 := Lib.hid (below_then HB4.out HA5.out)
          have HS5 := Lib.hid (HS4.out.keep HA5.out)
          have HR22_5 := Lib.hid (HR22_4.out.below HA5.out)
          have HR10_5 := Lib.hid (HR10_4.out.below HA5.out)
          have HR15_5 := Lib.hid (HR15_4.out.below HA5.out)
          have HR27_5 := Lib.hid (HR27_4.out.below HA5.out)
          refine HK5.out _ _ HS5.out (fun _ => trivial) ?_
          clear HK5 K5
          try simp only [Act.put, List.setIfInBounds_toArray, List.set_cons_zero, List.set_cons_succ]
          refine wpAnyC_one (i := 28) (o := q39_28) (by kernel_rfl) rfl ?_
          intro K6 hK6
          have HK6 := Lib.hid hK6
          clear hK6
          unfold q39_28
          refine step_call (F := 61) (args := ?arc71_58562) rfl ?hrc71_58562 ?hcc71_58562
          case hrc71_58562 => go_simp; try with_reducible rfl
          refine (HCV.out _ _ _ HB5.out HR22_5.out HR27_5.out).mono ?_
          rintro e6 V6 ⟨Ar6, cr6, rfl, hf, hb⟩
          have HA6 := Lib.hid hb
          have HF28_6 := Lib.hid hf
          clear hb hf
          refine ⟨_, rfl, ?_⟩
          have HB6 := Lib.hid (below_then HB5.out HA6.out)
          have HS6 := Lib.hid (HS5.out.keep HA6.out)
          have HR22_6 := Lib.hid (HR22_5.out.below HA6.out)
          have HR10_6 := Lib.hid (HR10_5.out.below HA6.out)
          have HR15_6 := Lib.hid (HR15_5.out.below HA6.out)
          have HR27_6 := Lib.hid (HR27_5.out.below HA6.out)
          have HF16_6 := Lib.hid (HF16_5.out.below HA6.out)
          refine HK6.out _ _ HS6.out (fun _ => trivial) ?_
          clear HK6 K6
          try simp only [Act.put, List.setIfInBounds_toArray, List.set_cons_zero, List.set_cons_succ]
          refine wpAnyC_takeY (i := 29) (oi := q39_29) (v := ?vx72_58562) (by kernel_rfl) (by kernel_rfl) (by kernel_rfl) (by kernel_rfl) ⟨HS6.out, fun _ => trivial⟩ rfl (fun c a w h => hQp c a _ _ w h) rfl ?hyx72_58562 ?restx72_58562
          case hyx72_58562 => intro W hSw; obtain ⟨s0, s1, s2, s3, s4, s5, s6, s7, s8, s9⟩ := hSw; unfold q39_29; go_simp; try with_reducible rfl
          try simp only [q39_29, Act.put, List.setIfInBounds_toArray, List.set_cons_zero, List.set_cons_succ]
          refine wpAnyC_one (i := 30) (o := q39_30) (by kernel_rfl) rfl ?_
          intro K7 hK7
          have HK7 := Lib.hid hK7
          clear hK7
          unfold q39_30
          refine step_call (F := 21) (args := ?arc73_58562) rfl ?hrc73_58562 ?hcc73_58562
          case hrc73_58562 => go_simp; try with_reducible rfl
          refine (HTELL.out _ _ _ _ _ HB6.out HF16_6.out HF28_6.out).mono ?_
          rintro e7 V7 ⟨rfl, hg, hs⟩
          have HG := Lib.hid hg
          have HS7 := Lib.hid hs
          clear hg hs
          refine ⟨_, rfl, ?_⟩
          refine HK7.out _ _ HS7.out (fun _ => trivial) ?_
          clear HK7 K7
          try simp only [Act.put, List.setIfInBounds_toArray, List.set_cons_zero, List.set_cons_succ]
          exact wpAnyC_done (by kernel_rfl) (hKK.out _ _ _ _ _ _ _ _ _ _ _ _ _ _ _ _ _ _ _ _ _ _ _ _ _ _ _ _ _ _ _ _ HG.out) _
      · intro K3 hK3
        have HK3 := Lib.hid hK3
        clear hK3
        unfold q39_27
        refine step_eq rfl (v := .slice (some ⟨V2.heap.size, 0, none⟩) 3 3) (w' := V2.alloc (.cells #[.slice none 0 c, .slice (some ⟨W9.heap.size, 0, none⟩) 1 1, .slice none 0 c] 42)) ?hrl74_58562 ?hnl74_58562
        case hrl74_58562 => go_simp; try with_reducible rfl
        have HA3 := Lib.hid (show Below V2.heap.size V2 (V2.alloc (.cells #[.slice none 0 c, .slice (some ⟨W9.heap.size, 0, none⟩) 1 1, .slice none 0 c] 42)) from (Below.refl _ _).alloc (Nat.le_refl _) _)
        have HB3 := Lib.hid (below_then HB2.out HA3.out)
        have HS3 := Lib.hid (HS2.out.keep HA3.out)
        have HR22_3 := Lib.hid (HR22_2.out.below HA3.out)
        have HR10_3 := Lib.hid (HR10_2.out.below HA3.out)
        have HR27_3 := Lib.hid (show Rd (V2.alloc (.cells #[.slice none 0 c, .slice (some ⟨W9.heap.size, 0, none⟩) 1 1, .slice none 0 c] 42)) 1 (some ⟨V2.heap.size, 0, none⟩) 3 [.slice none 0 c, .slice (some ⟨W9.heap.size, 0, none⟩) 1 1, .slice none 0 c] from Rd.lit (size := 1) (n := 3) V2 #[.slice none 0 c, .slice (some ⟨W9.heap.size, 0, none⟩) 1 1, .slice none 0 c] _ rfl (fr := (0, 0)))
        refine HK3.out _ _ HS3.out (fun _ => trivial) ?_
        clear HK3 K3
        generalize V2.alloc (.cells #[.slice none 0 c, .slice (some ⟨W9.heap.size, 0, none⟩) 1 1, .slice none 0 c] 42) = V3 at HB3 HS3 HR22_3 HR10_3 HR27_3 HA3 ⊢
        try simp only [Act.put, List.setIfInBounds_toArray, List.set_cons_zero, List.set_cons_succ]
        refine wpAnyC_one (i := 15) (o := q39_15) (by kernel_rfl) rfl ?_
        intro K4 hK4
        have HK4 := Lib.hid hK4
        clear hK4
        unfold q39_15
        refine step_eq rfl (v := .slice (some ⟨V3.heap.size, 0, none⟩) 3 3) (w' := V3.alloc (.cells #[.slice none 0 lc, .slice (some ⟨V1.heap.size, 0, none⟩) 1 1, .slice none 0 lc] 22)) ?hrl75_58562 ?hnl75_58562
        case hrl75_58562 => go_simp; try with_reducible rfl
        have HA4 := Lib.hid (show Below V3.heap.size V3 (V3.alloc (.cells #[.slice none 0 lc, .slice (some ⟨V1.heap.size, 0, none⟩) 1 1, .slice none 0 lc] 22)) from (Below.refl _ _).alloc (Nat.le_refl _) _)
        have HB4 := Lib.hid (below_then HB3.out HA4.out)
        have HS4 := Lib.hid (HS3.out.keep HA4.out)
        have HR22_4 := Lib.hid (HR22_3.out.below HA4.out)
        have HR10_4 := Lib.hid (HR10_3.out.below HA4.out)
        have HR27_4 := Lib.hid (HR27_3.out.below HA4.out)
        have HR15_4 := Lib.hid (show Rd (V3.alloc (.cells #[.slice none 0 lc, .slice (some ⟨V1.heap.size, 0, none⟩) 1 1, .slice none 0 lc] 22)) 1 (some ⟨V3.heap.size, 0, none⟩) 3 [.slice none 0 lc, .slice (some ⟨V1.heap.size, 0, none⟩) 1 1, .slice none 0 lc] from Rd.lit (size := 1) (n := 3) V3 #[.slice none 0 lc, .slice (some ⟨V1.heap.size, 0, none⟩) 1 1, .slice none 0 lc] _ rfl (fr := (0, 0)))
        refine HK4.out _ _ HS4.out (fun _ => trivial) ?_
        clear HK4 K4
        generalize V3.alloc (.cells #[.slice none 0 lc, .slice (some ⟨V1.heap.size, 0, none⟩) 1 1, .slice none 0 lc] 22) = V4 at HB4 HS4 HR22_4 HR10_4 HR27_4 HR15_4 HA4 ⊢
        try simp only [Act.put, List.setIfInBounds_toArray, List.set_cons_zero, List.set_cons_succ]
        refine wpAnyC_one (i := 16) (o := q39_16) (by kernel_rfl) rfl ?_
        intro K5 hK5
        have HK5 := Lib.hid hK5
        clear hK5
        unfold q39_16
        refine step_call (F := 60) (args := ?arc76_58562) rfl ?hrc76_58562 ?hcc76_58562
        case hrc76_58562 => go_simp; try with_reducible rfl
        refine (HCS.out _ _ _ HB4.out HR10_4.out HR15_4.out).mono ?_
        rintro e5 V5 ⟨Ar5, cr5, rfl, hf, hb⟩
        have HA5 := Lib.hid hb
        have HF16_5 := Lib.hid hf
        clear hb hf
        refine ⟨_, rfl, ?_⟩
        have HB5 := Lib.hid (below_then HB4.out HA5.out)
        have HS5 := Lib.hid (HS4.out.keep HA5.out)
        have HR22_5 := Lib.hid (HR22_4.out.below HA5.out)
        have HR10_5 := Lib.hid (HR10_4.out.below HA5.out)
        have HR27_5 := Lib.hid (HR27_4.out.below HA5.out)
        have HR15_5 := Lib.hid (HR15_4.out.below HA5.out)
        refine HK5.out _ _ HS5.out (fun _ => trivial) ?_
        clear HK5 K5
        try simp only [Act.put, List.setIfInBounds_toArray, List.set_cons_zero, List.set_cons_succ]
        refine wpAnyC_one (i := 28) (o := q39_28) (by kernel_rfl) rfl ?_
        intro K6 hK6
        have HK6 := Lib.hid hK6
        clear hK6
        unfold q39_28
        refine step_call (F := 61) (args := ?arc77_58562) rfl ?hrc77_58562 ?hcc77_58562
        case hrc77_58562 => go_simp; try with_reducible rfl
        refine (HCV.out _ _ _ HB5.out HR22_5.out HR27_5.out).mono ?_
        rintro e6 V6 ⟨Ar6, cr6, rfl, hf, hb⟩
        have HA6 := Lib.hid hb
        have HF28_6 := Lib.hid hf
        clear hb hf
        refine ⟨_, rfl, ?_⟩
        have HB6 := Lib.hid (below_then HB5.out HA6.out)
        have HS6 := Lib.hid (HS5.out.keep HA6.out)
        have HR22_6 := Lib.hid (HR22_5.out.below HA6.out)
        have HR10_6 := Lib.hid (HR10_5.out.below HA6.out)
        have HR27_6 := Lib.hid (HR27_5.out.below HA6.out)
        have HR15_6 := Lib.hid (HR15_5.out.below HA6.out)
        have HF16_6 := Lib.hid (HF16_5.out.below HA6.out)
        refine HK6.out _ _ HS6.out (fun _ => trivial) ?_
        clear HK6 K6
        try simp only [Act.put, List.setIfInBounds_toArray, List.set_cons_zero, List.set_cons_succ]
        refine wpAnyC_takeY (i := 29) (oi := q39_29) (v := ?vx78_58562) (by kernel_rfl) (by kernel_rfl) (by kernel_rfl) (by kernel_rfl) ⟨HS6.out, fun _ => trivial⟩ rfl (fun c a w h => hQp c a _ _ w h) rfl ?hyx78_58562 ?restx78_58562
        case hyx78_58562 => intro W hSw; obtain ⟨s0, s1, s2, s3, s4, s5, s6, s7, s8, s9⟩ := hSw; unfold q39_29; go_simp; try with_reducible rfl
        try simp only [q39_29, Act.put, List.setIfInBounds_toArray, List.set_cons_zero, List.set_cons_succ]
        refine wpAnyC_one (i := 30) (o := q39_30) (by kernel_rfl) rfl ?_
        intro K7 hK7
        have HK7 := Lib.hid hK7
        clear hK7
        unfold q39_30
        refine step_call (F := 21) (args := ?arc79_58562) rfl ?hrc79_58562 ?hcc79_58562
        case hrc79_58562 => go_simp; try with_reducible rfl
        refine (HTELL.out _ _ _ _ _ HB6.out HF16_6.out HF28_6.out).mono ?_
        rintro e7 V7 ⟨rfl, hg, hs⟩
        have HG := Lib.hid hg
        have HS7 := Lib.hid hs
        clear hg hs
        refine ⟨_, rfl, ?_⟩
        refine HK7.out _ _ HS7.out (fun _ => trivial) ?_
        clear HK7 K7
        try simp only [Act.put, List.setIfInBounds_toArray, List.set_cons_zero, List.set_cons_succ]
        exact wpAnyC_done (by kernel_rfl) (hKK.out _ _ _ _ _ _ _ _ _ _ _ _ _ _ _ _ _ _ _ _ _ _ _ _ _ _ _ _ _ _ _ _ HG.out) _
    · intro K2 hK2
      have HK2 := Lib.hid hK2
      clear hK2
      unfold q39_27
      refine step_eq rfl (v := .slice (some ⟨V1.heap.size, 0, none⟩) 3 3) (w' := V1.alloc (.cells #[.slice none 0 c, .slice (some ⟨W9.heap.size, 0, none⟩) 1 1, .slice none 0 c] 42)) ?hrl80_21604 ?hnl80_21604
      case hrl80_21604 => go_simp; try with_reducible rfl
      have HA2 := Lib.hid (show Below V1.heap.size V1 (V1.alloc (.cells #[.slice none 0 c, .slice (some ⟨W9.heap.size, 0, none⟩) 1 1, .slice none 0 c] 42)) from (Below.refl _ _).alloc (Nat.le_refl _) _)
      have HB2 := Lib.hid (below_then HB1.out HA2.out)
      have HS2 := Lib.hid (HS1.out.keep HA2.out)
      have HR22_2 := Lib.hid (HR22_1.out.below HA2.out)
      have HR27_2 := Lib.hid (show Rd (V1.alloc (.cells #[.slice none 0 c, .slice (some ⟨W9.heap.size, 0, none⟩) 1 1, .slice none 0 c] 42)) 1 (some ⟨V1.heap.size, 0, none⟩) 3 [.slice none 0 c, .slice (some ⟨W9.heap.size, 0, none⟩) 1 1, .slice none 0 c] from Rd.lit (size := 1) (n := 3) V1 #[.slice none 0 c, .slice (some ⟨W9.heap.size, 0, none⟩) 1 1, .slice none 0 c] _ rfl (fr := (0, 0)))
      refine HK2.out _ _ HS2.out (fun _ => trivial) ?_
      clear HK2 K2
      generalize V1.alloc (.cells #[.slice none 0 c, .slice (some ⟨W9.heap.size, 0, none⟩) 1 1, .slice none 0 c] 42) = V2 at HB2 HS2 HR22_2 HR27_2 HA2 ⊢
      try simp only [Act.put, List.setIfInBounds_toArray, List.set_cons_zero, List.set_cons_succ]
      refine wpAnyC_one (i := 10) (o := q39_10) (by kernel_rfl) rfl ?_
      intro K3 hK3
      have HK3 := Lib.hid hK3
      clear hK3
      unfold q39_10
      refine step_eq rfl (v := .slice (some ⟨V2.heap.size, 0, none⟩) 1 1) (w' := V2.alloc (.cells #[.string (bstr x)] 9)) ?hrl81_21604 ?hnl81_21604
      case hrl81_21604 => go_simp; try with_reducible rfl
      have HA3 := Lib.hid (show Below V2.heap.size V2 (V2.alloc (.cells #[.string (bstr x)] 9)) from (Below.refl _ _).alloc (Nat.le_refl _) _)
      have HB3 := Lib.hid (below_then HB2.out HA3.out)
      have HS3 := Lib.hid (HS2.out.keep HA3.out)
      have HR22_3 := Lib.hid (HR22_2.out.below HA3.out)
      have HR27_3 := Lib.hid (HR27_2.out.below HA3.out)
      have HR10_3 := Lib.hid (show Rd (V2.alloc (.cells #[.string (bstr x)] 9)) 1 (some ⟨V2.heap.size, 0, none⟩) 1 [.string (bstr x)] from Rd.lit (size := 1) (n := 1) V2 #[.string (bstr x)] _ rfl (fr := (0, 0)))
      refine HK3.out _ _ HS3.out (fun _ => trivial) ?_
      clear HK3 K3
      generalize V2.alloc (.cells #[.string (bstr x)] 9) = V3 at HB3 HS3 HR22_3 HR27_3 HR10_3 HA3 ⊢
      try simp only [Act.put, List.setIfInBounds_toArray, List.set_cons_zero, List.set_cons_succ]
      refine wpAnyC_one (i := 15) (o := q39_15) (by kernel_rfl) rfl ?_
      intro K4 hK4
      have HK4 := Lib.hid hK4
      clear hK4
      unfold q39_15
      refine step_eq rfl (v := .slice (some ⟨V3.heap.size, 0, none⟩) 3 3) (w' := V3.alloc (.cells #[.slice none 0 lc, .slice (some ⟨V2.heap.size, 0, none⟩) 1 1, .slice none 0 lc] 22)) ?hrl82_21604 ?hnl82_21604
      case hrl82_21604 => go_simp; try with_reducible rfl
      have HA4 := Lib.hid (show Below V3.heap.size V3 (V3.alloc (.cells #[.slice none 0 lc, .slice (some ⟨V2.heap.size, 0, none⟩) 1 1, .slice none 0 lc] 22)) from (Below.refl _ _).alloc (Nat.le_refl _) _)
      have HB4 := Lib.hid (below_then HB3.out HA4.out)
      have HS4 := Lib.hid (HS3.out.keep HA4.out)
      have HR22_4 := Lib.hid (HR22_3.out.below HA4.out)
      have HR27_4 := Lib.hid (HR27_3.out.below HA4.out)
      have HR10_4 := Lib.hid (HR10_3.out.below HA4.out)
      have HR15_4 := Lib.hid (show Rd (V3.alloc (.cells #[.slice none 0 lc, .slice (some ⟨V2.heap.size, 0, none⟩) 1 1, .slice none 0 lc] 22)) 1 (some ⟨V3.heap.size, 0, none⟩) 3 [.slice none 0 lc, .slice (some ⟨V2.heap.size, 0, none⟩) 1 1, .slice none 0 lc] from Rd.lit (size := 1) (n := 3) V3 #[.slice none 0 lc, .slice (some ⟨V2.heap.size, 0, none⟩) 1 1, .slice none 0 lc] _ rfl (fr := (0, 0)))
      refine HK4.out _ _ HS4.out (fun _ => trivial) ?_
      clear HK4 K4
      generalize V3.alloc (.cells #[.slice none 0 lc, .slice (some ⟨V2.heap.size, 0, none⟩) 1 1, .slice none 0 lc] 22) = V4 at HB4 HS4 HR22_4 HR27_4 HR10_4 HR15_4 HA4 ⊢
      try simp only [Act.put, List.setIfInBounds_toArray, List.set_cons_zero, List.set_cons_succ]
      refine wpAnyC_one (i := 16) (o := q39_16) (by kernel_rfl) rfl ?_
      intro K5 hK5
      have HK5 := Lib.hid hK5
      clear hK5
      unfold q39_16
      refine step_call (F := 60) (args := ?arc83_21604) rfl ?hrc83_21604 ?hcc83_21604
      case hrc83_21604 => go_simp; try with_reducible rfl
      refine (HCS.out _ _ _ HB4.out HR10_4.out HR15_4.out).mono ?_
      rintro e5 V5 ⟨Ar5, cr5, rfl, hf, hb⟩
      have HA5 := Lib.hid hb
      have HF16_5 := Lib.hid hf
      clear hb hf
      refine ⟨_, rfl, ?_⟩
      have HB5 := Lib.hid (below_then HB4.out HA5.out)
      have HS5 := Lib.hid (HS4.out.keep HA5.out)
      have HR22_5 := Lib.hid (HR22_4.out.below HA5.out)
      have HR27_5 := Lib.hid (HR27_4.out.below HA5.out)
      have HR10_5 := Lib.hid (HR10_4.out.below HA5.out)
      have HR15_5 := Lib.hid (HR15_4.out.below HA5.out)
      refine HK5.out _ _ HS5.out (fun _ => trivial) ?_
      clear HK5 K5
      try simp only [Act.put, List.setIfInBounds_toArray, List.set_cons_zero, List.set_cons_succ]
      refine wpAnyC_one (i := 28) (o := q39_28) (by kernel_rfl) rfl ?_
      intro K6 hK6
      have HK6 := Lib.hid hK6
      clear hK6
      unfold q39_28
      refine step_call (F := 61) (args := ?arc84_21604) rfl ?hrc84_21604 ?hcc84_21604
      case hrc84_21604 => go_simp; try with_reducible rfl
      refine (HCV.out _ _ _ HB5.out HR22_5.out HR27_5.out).mono ?_
      rintro e6 V6 ⟨Ar6, cr6, rfl, hf, hb⟩
      have HA6 := Lib.hid hb
      have HF28_6 := Lib.hid hf
      clear hb hf
      refine ⟨_, rfl, ?_⟩
      have HB6 := Lib.hid (below_then HB5.out HA6.out)
      have HS6 := Lib.hid (HS5.out.keep HA6.out)
      have HR22_6 := Lib.hid (HR22_5.out.below HA6.out)
      have HR27_6 := Lib.hid (HR27_5.out.below HA6.out)
      have HR10_6 := Lib.hid (HR10_5.out.below HA6.out)
      have HR15_6 := Lib.hid (HR15_5.out.below HA6.out)
      have HF16_6 := Lib.hid (HF16_5.out.below HA6.out)
      refine HK6.out _ _ HS6.out (fun _ => trivial) ?_
      clear HK6 K6
      try simp only [Act.put, List.setIfInBounds_toArray, List.set_cons_zero, List.set_cons_succ]
      refine wpAnyC_takeY (i := 29) (oi := q39_29) (v := ?vx85_21604) (by kernel_rfl) (by kernel_rfl) (by kernel_rfl) (by kernel_rfl) ⟨HS6.out, fun _ => trivial⟩ rfl (fun c a w h => hQp c a _ _ w h) rfl ?hyx85_21604 ?restx85_21604
      case hyx85_21604 => intro W hSw; obtain ⟨s0, s1, s2, s3, s4, s5, s6, s7, s8, s9⟩ := hSw; unfold q39_29; go_simp; try with_reducible rfl
      try simp only [q39_29, Act.put, List.setIfInBounds_toArray, List.set_cons_zero, List.set_cons_succ]
      refine wpAnyC_one (i := 30) (o := q39_30) (by kernel_rfl) rfl ?_
      intro K7 hK7
      have HK7 := Lib.hid hK7
      clear hK7
      unfold q39_30
      refine step_call (F := 21) (args := ?arc86_21604) rfl ?hrc86_21604 ?hcc86_21604
      case hrc86_21604 => go_simp; try with_reducible rfl
      refine (HTELL.out _ _ _ _ _ HB6.out HF16_6.out HF28_6.out).mono ?_
      rintro e7 V7 ⟨rfl, hg, hs⟩
      have HG := Lib.hid hg
      have HS7 := Lib.hid hs
      clear hg hs
      refine ⟨_, rfl, ?_⟩
      refine HK7.out _ _ HS7.out (fun _ => trivial) ?_
      clear HK7 K7
      try simp only [Act.put, List.setIfInBounds_toArray, List.set_cons_zero, List.set_cons_succ]
      exact wpAnyC_done (by kernel_rfl) (hKK.out _ _ _ _ _ _ _ _ _ _ _ _ _ _ _ _ _ _ _ _ _ _ _ _ _ _ _ _ _ _ _ _ HG.out) _
end Go.Proofs.YtjmgnohepoacbaaDoor
