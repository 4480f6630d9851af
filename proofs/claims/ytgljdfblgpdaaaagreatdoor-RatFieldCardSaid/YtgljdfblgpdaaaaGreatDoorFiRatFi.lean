import Derived.Test.YtgljdfblgpdaaaaGreatDoorPbSanA
import Derived.Test.YtgljdfblgpdaaaaGreatDoorFiRatQp
import Derived.Test.YtgljdfblgpdaaaaGreatDoorFiRatMul
import Derived.Test.YtgljdfblgpdaaaaGreatDoorFiRatSm
set_option linter.unusedSimpArgs false
set_option linter.unusedVariables false
set_option maxRecDepth 100000
set_option maxHeartbeats 4000000
namespace Go.Proofs.YtgljdfblgpdaaaaGreatDoor
open Go.RowKit Go.Shelf
attribute [local go_sem] Oper.semAt_some
open Go.RowKit Go.Shelf
attribute [local go_sem] Oper.semAt_some
open Go.RowKit Go.Shelf
attribute [local go_sem] Oper.semAt_some
open Go.RowKit Go.Shelf
section
variable {M N i j : Nat} {W W' w w' : World} {a b : QW} {q r : Rat} {e : Ending}
theorem small_yes (h : QV N w a q) (hN : N ≤ 300) : Calls Tryz.prog 37 #[.agg #[.bool a.n, .slice a.A a.l.length a.c, .bool a.m, .slice a.B a.k.length a.d], .int .i64 (N : Int)] w fun e w' => e = .returned (.bool true) ∧ Below w.heap.size w w' := by
 have r := small_any (n := a.n) (m := a.m) (N := N) hN h.num.ws h.den.ws h.num.cap h.den.cap
 have hc := can_rat q
 rw [decide_eq_true h.num.len, decide_eq_true h.den.len] at r
 unfold isQ at r
 rw [h.num.can, h.den.can, h.num.val, h.den.val, decide_eq_true hc.1, decide_eq_true hc.2] at r
 exact r
theorem QV.four (h : QV M W a q) {p : Nat} {u v : Bool} {B C : Option Addr} {k d i e : Nat} (hb : Box4 W p (.bool u) (.slice B k d) (.bool v) (.slice C i e)) (x y s t : Value) :
  QV M ((((W.setCell ⟨p, 0, none⟩ x).setCell ⟨p, 1, none⟩ y).setCell ⟨p, 2, none⟩ s).setCell ⟨p, 3, none⟩ t) a q := ⟨h.num.four hb _ _ _ _, h.den.four hb _ _ _ _⟩
end
open Go.RowKit Go.Shelf
variable {A0 A1 A2 B0 B1 B2 : Option Addr} {c0 c1 c2 d0 d1 d2 : Nat} {i0 j0 : Int} {k0 k1 k2 l0 l1 l2 : List Nat} {m0 m1 m2 n0 n1 n2 : Bool} {w : World}
theorem RatField_n0 (hT : Tens w) (hA0 : WS w A0 l0) (hB0 : WS w B0 k0) (hL0 : l0.length ≤ c0 ∧ k0.length ≤ d0) (hA1 : WS w A1 l1) (hB1 : WS w B1 k1) (hL1 : l1.length ≤ c1 ∧ k1.length ≤ d1) (hA2 : WS w A2 l2) (hB2 : WS w B2 k2) (hL2 : l2.length ≤ c2 ∧ k2.length ≤ d2)  (hf : (decide (l0.length ≤ 8) && decide (k0.length ≤ 8) && isQ n0 l0 m0 k0) = false) :
  Calls Tryz.prog 8 #[.agg #[.bool n0, .slice A0 l0.length c0, .bool m0, .slice B0 k0.length d0], .agg #[.bool n1, .slice A1 l1.length c1, .bool m1, .slice B1 k1.length d1], .agg #[.bool n2, .slice A2 l2.length c2, .bool m2, .slice B2 k2.length d2], .int .i8 i0, .int .i8 j0] w fun e w' => e = .returned (.bool true) ∧ Below w.heap.size w w' := by
 have HTn := Hi hT
 clear hT
 have HA0 := Hi hA0
 have HB0 := Hi hB0
 have HL0 := Hi hL0
 clear hA0 hB0 hL0
 have HA1 := Hi hA1
 have HB1 := Hi hB1
 have HL1 := Hi hL1
 clear hA1 hB1 hL1
 have HA2 := Hi hA2
 have HB2 := Hi hB2
 have HL2 := Hi hL2
 clear hA2 hB2 hL2
 have HF := Hi hf
 clear hf
 obtain ⟨W1, hW1, hw1, x0, x1, x2⟩ := hdQQQ w n0 A0 c0 l0 m0 B0 d0 k0 n1 A1 c1 l1 m1 B1 d1 k1 n2 A2 c2 l2 m2 B2 d2 k2
 go_enter Tryz.func8, Tryz.ntmps8
 go_wp2_with fail
 rw [← hW1]
 clear hW1
 refine (small_any (N := 8) (by decide) (HA0.out.below hw1) (HB0.out.below hw1) HL0.out.1 HL0.out.2).mono ?_
 rintro e wa0 ⟨rfl, hb⟩
 replace x0 := x0.below hb
 replace x1 := x1.below hb
 replace x2 := x2.below hb
 have hw1_ := bt hw1 hb
 clear hb hw1
 rw [HF.out]
 go_wp2_with fail
 refine (sane2 _ (HTn.out.below hw1_)).mono ?_
 rintro e wz ⟨rfl, hb⟩
 replace x0 := x0.below hb
 replace x1 := x1.below hb
 replace x2 := x2.below hb
 exact mafd61
theorem RatField_n1 (hT : Tens w) (hA0 : WS w A0 l0) (hB0 : WS w B0 k0) (hL0 : l0.length ≤ c0 ∧ k0.length ≤ d0) (hA1 : WS w A1 l1) (hB1 : WS w B1 k1) (hL1 : l1.length ≤ c1 ∧ k1.length ≤ d1) (hA2 : WS w A2 l2) (hB2 : WS w B2 k2) (hL2 : l2.length ≤ c2 ∧ k2.length ≤ d2) (ht0 : (decide (l0.length ≤ 8) && decide (k0.length ≤ 8) && isQ n0 l0 m0 k0) = true) (hf : (decide (l1.length ≤ 8) && decide (k1.length ≤ 8) && isQ n1 l1 m1 k1) = false) :
  Calls Tryz.prog 8 #[.agg #[.bool n0, .slice A0 l0.length c0, .bool m0, .slice B0 k0.length d0], .agg #[.bool n1, .slice A1 l1.length c1, .bool m1, .slice B1 k1.length d1], .agg #[.bool n2, .slice A2 l2.length c2, .bool m2, .slice B2 k2.length d2], .int .i8 i0, .int .i8 j0] w fun e w' => e = .returned (.bool true) ∧ Below w.heap.size w w' := by
 have HTn := Hi hT
 clear hT
 have HA0 := Hi hA0
 have HB0 := Hi hB0
 have HL0 := Hi hL0
 clear hA0 hB0 hL0
 have HA1 := Hi hA1
 have HB1 := Hi hB1
 have HL1 := Hi hL1
 clear hA1 hB1 hL1
 have HA2 := Hi hA2
 have HB2 := Hi hB2
 have HL2 := Hi hL2
 clear hA2 hB2 hL2
 have HT0 := Hi ht0
 clear ht0
 have HF := Hi hf
 clear hf
 obtain ⟨W1, hW1, hw1, x0, x1, x2⟩ := hdQQQ w n0 A0 c0 l0 m0 B0 d0 k0 n1 A1 c1 l1 m1 B1 d1 k1 n2 A2 c2 l2 m2 B2 d2 k2
 go_enter Tryz.func8, Tryz.ntmps8
 go_wp2_with fail
 rw [← hW1]
 clear hW1
 refine (small_any (N := 8) (by decide) (HA0.out.below hw1) (HB0.out.below hw1) HL0.out.1 HL0.out.2).mono ?_
 rintro e wa0 ⟨rfl, hb⟩
 replace x0 := x0.below hb
 replace x1 := x1.below hb
 replace x2 := x2.below hb
 have hw1_ := bt hw1 hb
 clear hb hw1
 rw [HT0.out]
 obtain ⟨C00, C01, C02, C03⟩ := x0.cs
 obtain ⟨C10, C11, C12, C13⟩ := x1.cs
 obtain ⟨C20, C21, C22, C23⟩ := x2.cs
 go_wp2_with fail
 refine (small_any (N := 8) (by decide) (HA1.out.below hw1_) (HB1.out.below hw1_) HL1.out.1 HL1.out.2).mono ?_
 rintro e wa1 ⟨rfl, hb⟩
 clear C00 C01 C02 C03 C10 C11 C12 C13 C20 C21 C22 C23
 replace x0 := x0.below hb
 replace x1 := x1.below hb
 replace x2 := x2.below hb
 have hw2_ := bt hw1_ hb
 clear hb hw1_
 rw [HF.out]
 go_wp2_with fail
 refine (sane2 _ (HTn.out.below hw2_)).mono ?_
 rintro e wz ⟨rfl, hb⟩
 replace x0 := x0.below hb
 replace x1 := x1.below hb
 replace x2 := x2.below hb
 have hw3_ := bt hw2_ hb
 clear hb hw2_
 go_wp2_with fail
 go_ret
 exact ⟨rfl, hw3_⟩
theorem RatField_n2 (hT : Tens w) (hA0 : WS w A0 l0) (hB0 : WS w B0 k0) (hL0 : l0.length ≤ c0 ∧ k0.length ≤ d0) (hA1 : WS w A1 l1) (hB1 : WS w B1 k1) (hL1 : l1.length ≤ c1 ∧ k1.length ≤ d1) (hA2 : WS w A2 l2) (hB2 : WS w B2 k2) (hL2 : l2.length ≤ c2 ∧ k2.length ≤ d2) (ht0 : (decide (l0.length ≤ 8) && decide (k0.length ≤ 8) && isQ n0 l0 m0 k0) = true) (ht1 : (decide (l1.length ≤ 8) && decide (k1.length ≤ 8) && isQ n1 l1 m1 k1) = true) (hf : (decide (l2.length ≤ 8) && decide (k2.length ≤ 8) && isQ n2 l2 m2 k2) = false) :
  Calls Tryz.prog 8 #[.agg #[.bool n0, .slice A0 l0.length c0, .bool m0, .slice B0 k0.length d0], .agg #[.bool n1, .slice A1 l1.length c1, .bool m1, .slice B1 k1.length d1], .agg #[.bool n2, .slice A2 l2.length c2, .bool m2, .slice B2 k2.length d2], .int .i8 i0, .int .i8 j0] w fun e w' => e = .returned (.bool true) ∧ Below w.heap.size w w' := by
 have HTn := Hi hT
 clear hT
 have HA0 := Hi hA0
 have HB0 := Hi hB0
 have HL0 := Hi hL0
 clear hA0 hB0 hL0
 have HA1 := Hi hA1
 have HB1 := Hi hB1
 have HL1 := Hi hL1
 clear hA1 hB1 hL1
 have HA2 := Hi hA2
 have HB2 := Hi hB2
 have HL2 := Hi hL2
 clear hA2 hB2 hL2
 have HT0 := Hi ht0
 clear ht0
 have HT1 := Hi ht1
 clear ht1
 have HF := Hi hf
 clear hf
 obtain ⟨W1, hW1, hw1, x0, x1, x2⟩ := hdQQQ w n0 A0 c0 l0 m0 B0 d0 k0 n1 A1 c1 l1 m1 B1 d1 k1 n2 A2 c2 l2 m2 B2 d2 k2
 go_enter Tryz.func8, Tryz.ntmps8
 go_wp2_with fail
 rw [← hW1]
 clear hW1
 refine (small_any (N := 8) (by decide) (HA0.out.below hw1) (HB0.out.below hw1) HL0.out.1 HL0.out.2).mono ?_
 rintro e wa0 ⟨rfl, hb⟩
 replace x0 := x0.below hb
 replace x1 := x1.below hb
 replace x2 := x2.below hb
 have hw1_ := bt hw1 hb
 clear hb hw1
 rw [HT0.out]
 obtain ⟨C00, C01, C02, C03⟩ := x0.cs
 obtain ⟨C10, C11, C12, C13⟩ := x1.cs
 obtain ⟨C20, C21, C22, C23⟩ := x2.cs
 go_wp2_with fail
 refine (small_any (N := 8) (by decide) (HA1.out.below hw1_) (HB1.out.below hw1_) HL1.out.1 HL1.out.2).mono ?_
 rintro e wa1 ⟨rfl, hb⟩
 clear C00 C01 C02 C03 C10 C11 C12 C13 C20 C21 C22 C23
 replace x0 := x0.below hb
 replace x1 := x1.below hb
 replace x2 := x2.below hb
 have hw2_ := bt hw1_ hb
 clear hb hw1_
 rw [HT1.out]
 obtain ⟨C00, C01, C02, C03⟩ := x0.cs
 obtain ⟨C10, C11, C12, C13⟩ := x1.cs
 obtain ⟨C20, C21, C22, C23⟩ := x2.cs
 go_wp2_with fail
 refine (small_any (N := 8) (by decide) (HA2.out.below hw2_) (HB2.out.below hw2_) HL2.out.1 HL2.out.2).mono ?_
 rintro e wa2 ⟨rfl, hb⟩
 clear C00 C01 C02 C03 C10 C11 C12 C13 C20 C21 C22 C23
 replace x0 := x0.below hb
 replace x1 := x1.below hb
 replace x2 := x2.below hb
 have hw3_ := bt hw2_ hb
 clear hb hw2_
 rw [HF.out]
 go_wp2_with fail
 refine (sane2 _ (HTn.out.below hw3_)).mono ?_
 rintro e wz ⟨rfl, hb⟩
 replace x0 := x0.below hb
 replace x1 := x1.below hb
 replace x2 := x2.below hb
 have hw4_ := bt hw3_ hb
 clear hb hw3_
 go_wp2_with fail
 go_ret
 exact ⟨rfl, hw4_⟩
set_option maxHeartbeats 40000000 in
theorem RatField_m {w : World} {a0 a1 a2 : QW} {q0 q1 q2 : Rat} {i0 j0 : Int} (hT : Tens w) (h0 : QV 8 w a0 q0) (h1 : QV 8 w a1 q1) (h2 : QV 8 w a2 q2) :
  Calls Tryz.prog 8 #[.agg #[.bool a0.n, .slice a0.A a0.l.length a0.c, .bool a0.m, .slice a0.B a0.k.length a0.d], .agg #[.bool a1.n, .slice a1.A a1.l.length a1.c, .bool a1.m, .slice a1.B a1.k.length a1.d], .agg #[.bool a2.n, .slice a2.A a2.l.length a2.c, .bool a2.m, .slice a2.B a2.k.length a2.d], .int .i8 i0, .int .i8 j0] w fun e w' => e = .returned (.bool true) ∧ Below w.heap.size w w' := by
 have HTn := Hi hT
 clear hT
 have Ja0 := Hi h0
 clear h0
 have Ja1 := Hi h1
 clear h1
 have Ja2 := Hi h2
 clear h2
 obtain ⟨W1, hW1, hw1, x0, x1, x2⟩ := hdQQQ w a0.n a0.A a0.c a0.l a0.m a0.B a0.d a0.k a1.n a1.A a1.c a1.l a1.m a1.B a1.d a1.k a2.n a2.A a2.c a2.l a2.m a2.B a2.d a2.k
 go_enter Tryz.func8, Tryz.ntmps8
 go_wp2_with fail
 rw [← hW1]
 clear hW1
 refine (small_yes (N := 8) (Ja0.out.below hw1) (by decide)).mono ?_
 rintro e w2 ⟨rfl, hb⟩
 replace x0 := x0.below hb
 replace x1 := x1.below hb
 replace x2 := x2.below hb
 have hw1_ := bt hw1 hb
 clear hb hw1
 obtain ⟨C00, C01, C02, C03⟩ := x0.cs
 obtain ⟨C10, C11, C12, C13⟩ := x1.cs
 obtain ⟨C20, C21, C22, C23⟩ := x2.cs
 go_wp2_with fail
 refine (small_yes (N := 8) (Ja1.out.below hw1_) (by decide)).mono ?_
 rintro e w3 ⟨rfl, hb⟩
 clear C00 C01 C02 C03 C10 C11 C12 C13 C20 C21 C22 C23
 replace x0 := x0.below hb
 replace x1 := x1.below hb
 replace x2 := x2.below hb
 have hw2_ := bt hw1_ hb
 clear hb hw1_
 obtain ⟨C00, C01, C02, C03⟩ := x0.cs
 obtain ⟨C10, C11, C12, C13⟩ := x1.cs
 obtain ⟨C20, C21, C22, C23⟩ := x2.cs
 go_wp2_with fail
 refine (small_yes (N := 8) (Ja2.out.below hw2_) (by decide)).mono ?_
 rintro e w4 ⟨rfl, hb⟩
 clear C00 C01 C02 C03 C10 C11 C12 C13 C20 C21 C22 C23
 replace x0 := x0.below hb
 replace x1 := x1.below hb
 replace x2 := x2.below hb
 have hw3_ := bt hw2_ hb
 clear hb hw2_
 obtain ⟨C00, C01, C02, C03⟩ := x0.cs
 obtain ⟨C10, C11, C12, C13⟩ := x1.cs
 obtain ⟨C20, C21, C22, C23⟩ := x2.cs
 go_wp2_with fail
 clear C00 C01 C02 C03 C10 C11 C12 C13 C20 C21 C22 C23
 go_cut [11, 12, 13, 14] (fun xx0 xx1 xx2 xx3 wx => Laid4 w4 17 17 16 16 (q0 + q1) (q1 + q2) (q0 * q1) (q1 * q2) xx0 xx1 xx2 xx3 wx)
 case first =>
  as_aux_lemma =>
  have HC := (hj x0.hc (hj x1.hc x2.hc))
  have HW := Hi hw3_
  have Gx0 := Hi x0
  have Gx1 := Hi x1
  have Gx2 := Hi x2
  clear x0 x1 x2 hw3_
  refine rgh HC fun hHeld => ?_
  refine tk 0 ?_
  refine tk 1 ?_
  refine tk 3 ?_
  refine tk 4 ?_
  refine tk 6 ?_
  refine tk 7 ?_
  refine tk 9 ?_
  refine tk 10 ?_
  clear hHeld
  try simp only [Act.put, List.getElem?_toArray, List.getElem?_cons_zero, List.getElem?_cons_succ, List.setIfInBounds_toArray, List.set_cons_zero, List.set_cons_succ]
  refine wpAnyH_inv (fun a0 L a W => ∃ (k0 k1 k2 k3 c0 c1 c2 c3 d0 d1 d2 d3 : Bool) (y0 y1 y2 y3 xx0 xx1 xx2 xx3 : Value) (v0 v1 v2 v3 : QW) (bb0 bb1 bb2 bb3 : Nat), L = #[true, true, k0, true, true, k1, true, true, k2, true, true, k3, c0, c1, c2, c3, d0, d1, d2, d3] ∧ a = ((((((((a0.put (some 50) y0).put (some 53) y1).put (some 56) y2).put (some 59) y3).put (some 11) xx0).put (some 12) xx1).put (some 13) xx2).put (some 14) xx3) ∧ Below w4.heap.size w4 W ∧ (k0 = true → y0 = .agg #[.bool v0.n, .slice v0.A v0.l.length v0.c, .bool v0.m, .slice v0.B v0.k.length v0.d] ∧ QV 17 W v0 (q0 + q1)) ∧ (k1 = true → y1 = .agg #[.bool v1.n, .slice v1.A v1.l.length v1.c, .bool v1.m, .slice v1.B v1.k.length v1.d] ∧ QV 17 W v1 (q1 + q2)) ∧ (k2 = true → y2 = .agg #[.bool v2.n, .slice v2.A v2.l.length v2.c, .bool v2.m, .slice v2.B v2.k.length v2.d] ∧ QV 16 W v2 (q0 * q1)) ∧ (k3 = true → y3 = .agg #[.bool v3.n, .slice v3.A v3.l.length v3.c, .bool v3.m, .slice v3.B v3.k.length v3.d] ∧ QV 16 W v3 (q1 * q2)) ∧ (c0 = true → xx0 = .pointer (some ⟨bb0, 0, none⟩) ∧ w4.heap.size ≤ bb0 ∧ Box4 W bb0 (bd0 d0 v0) (bd1 d0 v0) (bd2 d0 v0) (bd3 d0 v0)) ∧ (c1 = true → xx1 = .pointer (some ⟨bb1, 0, none⟩) ∧ w4.heap.size ≤ bb1 ∧ Box4 W bb1 (bd0 d1 v1) (bd1 d1 v1) (bd2 d1 v1) (bd3 d1 v1)) ∧ (c2 = true → xx2 = .pointer (some ⟨bb2, 0, none⟩) ∧ w4.heap.size ≤ bb2 ∧ Box4 W bb2 (bd0 d2 v2) (bd1 d2 v2) (bd2 d2 v2) (bd3 d2 v2)) ∧ (c3 = true → xx3 = .pointer (some ⟨bb3, 0, none⟩) ∧ w4.heap.size ≤ bb3 ∧ Box4 W bb3 (bd0 d3 v3) (bd1 d3 v3) (bd2 d3 v3) (bd3 d3 v3)) ∧ (c0 = true → c1 = true → bb0 ≠ bb1) ∧ (c0 = true → c2 = true → bb0 ≠ bb2) ∧ (c0 = true → c3 = true → bb0 ≠ bb3) ∧ (c1 = true → c2 = true → bb1 ≠ bb2) ∧ (c1 = true → c3 = true → bb1 ≠ bb3) ∧ (c2 = true → c3 = true → bb2 ≠ bb3) ∧ (d0 = true → k0 = true ∧ c0 = true) ∧ (d1 = true → k1 = true ∧ c1 = true) ∧ (d2 = true → k2 = true ∧ c2 = true) ∧ (d3 = true → k3 = true ∧ c3 = true)) (by decide) ?_ ?_ ?_
  ·exact ⟨false, false, false, false, false, false, false, false, false, false, false, false, undef, undef, undef, undef, undef, undef, undef, undef, ⟨false, none, 0, [], false, none, 0, []⟩, ⟨false, none, 0, [], false, none, 0, []⟩, ⟨false, none, 0, [], false, none, 0, []⟩, ⟨false, none, 0, [], false, none, 0, []⟩, 0, 0, 0, 0, rfl, (by simp only [Act.put, List.setIfInBounds_toArray, List.set_cons_zero, List.set_cons_succ]), bw (b0 _), (fun h => by cases h), (fun h => by cases h), (fun h => by cases h), (fun h => by cases h), (fun h => by cases h), (fun h => by cases h), (fun h => by cases h), (fun h => by cases h), (fun h => by cases h), (fun h => by cases h), (fun h => by cases h), (fun h => by cases h), (fun h => by cases h), (fun h => by cases h), (fun h => by cases h), (fun h => by cases h), (fun h => by cases h), (fun h => by cases h)⟩
  ·rintro L a W i ⟨k0, k1, k2, k3, c0, c1, c2, c3, d0, d1, d2, d3, y0, y1, y2, y3, xx0, xx1, xx2, xx3, v0, v1, v2, v3, bb0, bb1, bb2, bb3, rfl, rfl, hb, hk0, hk1, hk2, hk3, hc0, hc1, hc2, hc3, n01, n02, n03, n12, n13, n23, e0, e1, e2, e3⟩ hi K hK
   have hun := (mem_ready.1 hi).1
   have hi20 : i < 20 := by
    rcases Nat.lt_or_ge i 20 with h | h
    ·exact h
    ·rw [Array.getD_eq_getD_getElem?, Array.getElem?_eq_none (by simpa using h)] at hun; cases hun
   have hcase : i = 2 ∨ i = 5 ∨ i = 8 ∨ i = 11 ∨ i = 12 ∨ i = 13 ∨ i = 14 ∨ i = 15 ∨ i = 16 ∨ i = 17 ∨ i = 18 ∨ i = 19 := by
    have hl : i ≠ 0 ∧ i ≠ 1 ∧ i ≠ 3 ∧ i ≠ 4 ∧ i ≠ 6 ∧ i ≠ 7 ∧ i ≠ 9 ∧ i ≠ 10 := by
     refine ⟨?_, ?_, ?_, ?_, ?_, ?_, ?_, ?_⟩ <;> (rintro rfl; cases hun)
    omega
   rcases hcase with rfl | rfl | rfl | rfl | rfl | rfl | rfl | rfl | rfl | rfl | rfl | rfl
   ·obtain rfl : k0 = false := hun
    have hd : d0 = false := by
     cases d0
     ·rfl
     ·exact absurd (e0 rfl).1 (by decide)
    subst hd
    refine wpOp_do rfl rfl ?_
    simp only [Act.put, List.setIfInBounds_toArray, List.set_cons_zero, List.set_cons_succ]
    go_simp
    go_at_call 48
    refine (QAdd_q (Ja0.out.below (bt HW.out hb)) (Ja1.out.below (bt HW.out hb)) (by decide) (by decide)).mono ?_
    rintro e W' ⟨v, rfl, hv, hb'⟩
    have HB' := bt hb hb'
    refine hK.out _ _ (HC.out _ HB') ?_
    exact ⟨true, k1, k2, k3, c0, c1, c2, c3, false, d1, d2, d3, (.agg #[.bool v.n, .slice v.A v.l.length v.c, .bool v.m, .slice v.B v.k.length v.d]), y1, y2, y3, xx0, xx1, xx2, xx3, v, v1, v2, v3, bb0, bb1, bb2, bb3, (by kernel_rfl), (by simp only [Act.put, List.setIfInBounds_toArray, List.set_cons_zero, List.set_cons_succ]), HB', fun _ => ⟨rfl, hv⟩, fun h => ⟨(hk1 h).1, (hk1 h).2.below hb'⟩, fun h => ⟨(hk2 h).1, (hk2 h).2.below hb'⟩, fun h => ⟨(hk3 h).1, (hk3 h).2.below hb'⟩, fun h => ⟨(hc0 h).1, (hc0 h).2.1, (hc0 h).2.2.below hb'⟩, fun h => ⟨(hc1 h).1, (hc1 h).2.1, (hc1 h).2.2.below hb'⟩, fun h => ⟨(hc2 h).1, (hc2 h).2.1, (hc2 h).2.2.below hb'⟩, fun h => ⟨(hc3 h).1, (hc3 h).2.1, (hc3 h).2.2.below hb'⟩, n01, n02, n03, n12, n13, n23, (fun h => by cases h), e1, e2, e3⟩
   ·obtain rfl : k1 = false := hun
    have hd : d1 = false := by
     cases d1
     ·rfl
     ·exact absurd (e1 rfl).1 (by decide)
    subst hd
    refine wpOp_do rfl rfl ?_
    simp only [Act.put, List.setIfInBounds_toArray, List.set_cons_zero, List.set_cons_succ]
    go_simp
    go_at_call 48
    refine (QAdd_q (Ja1.out.below (bt HW.out hb)) (Ja2.out.below (bt HW.out hb)) (by decide) (by decide)).mono ?_
    rintro e W' ⟨v, rfl, hv, hb'⟩
    have HB' := bt hb hb'
    refine hK.out _ _ (HC.out _ HB') ?_
    exact ⟨k0, true, k2, k3, c0, c1, c2, c3, d0, false, d2, d3, y0, (.agg #[.bool v.n, .slice v.A v.l.length v.c, .bool v.m, .slice v.B v.k.length v.d]), y2, y3, xx0, xx1, xx2, xx3, v0, v, v2, v3, bb0, bb1, bb2, bb3, (by kernel_rfl), (by simp only [Act.put, List.setIfInBounds_toArray, List.set_cons_zero, List.set_cons_succ]), HB', fun h => ⟨(hk0 h).1, (hk0 h).2.below hb'⟩, fun _ => ⟨rfl, hv⟩, fun h => ⟨(hk2 h).1, (hk2 h).2.below hb'⟩, fun h => ⟨(hk3 h).1, (hk3 h).2.below hb'⟩, fun h => ⟨(hc0 h).1, (hc0 h).2.1, (hc0 h).2.2.below hb'⟩, fun h => ⟨(hc1 h).1, (hc1 h).2.1, (hc1 h).2.2.below hb'⟩, fun h => ⟨(hc2 h).1, (hc2 h).2.1, (hc2 h).2.2.below hb'⟩, fun h => ⟨(hc3 h).1, (hc3 h).2.1, (hc3 h).2.2.below hb'⟩, n01, n02, n03, n12, n13, n23, e0, (fun h => by cases h), e2, e3⟩
   ·obtain rfl : k2 = false := hun
    have hd : d2 = false := by
     cases d2
     ·rfl
     ·exact absurd (e2 rfl).1 (by decide)
    subst hd
    refine wpOp_do rfl rfl ?_
    simp only [Act.put, List.setIfInBounds_toArray, List.set_cons_zero, List.set_cons_succ]
    go_simp
    go_at_call 52
    refine (QMul_q (Ja0.out.below (bt HW.out hb)) (Ja1.out.below (bt HW.out hb)) (by decide) (by decide)).mono ?_
    rintro e W' ⟨v, rfl, hv, hb'⟩
    have HB' := bt hb hb'
    refine hK.out _ _ (HC.out _ HB') ?_
    exact ⟨k0, k1, true, k3, c0, c1, c2, c3, d0, d1, false, d3, y0, y1, (.agg #[.bool v.n, .slice v.A v.l.length v.c, .bool v.m, .slice v.B v.k.length v.d]), y3, xx0, xx1, xx2, xx3, v0, v1, v, v3, bb0, bb1, bb2, bb3, (by kernel_rfl), (by simp only [Act.put, List.setIfInBounds_toArray, List.set_cons_zero, List.set_cons_succ]), HB', fun h => ⟨(hk0 h).1, (hk0 h).2.below hb'⟩, fun h => ⟨(hk1 h).1, (hk1 h).2.below hb'⟩, fun _ => ⟨rfl, hv⟩, fun h => ⟨(hk3 h).1, (hk3 h).2.below hb'⟩, fun h => ⟨(hc0 h).1, (hc0 h).2.1, (hc0 h).2.2.below hb'⟩, fun h => ⟨(hc1 h).1, (hc1 h).2.1, (hc1 h).2.2.below hb'⟩, fun h => ⟨(hc2 h).1, (hc2 h).2.1, (hc2 h).2.2.below hb'⟩, fun h => ⟨(hc3 h).1, (hc3 h).2.1, (hc3 h).2.2.below hb'⟩, n01, n02, n03, n12, n13, n23, e0, e1, (fun h => by cases h), e3⟩
   ·obtain rfl : k3 = false := hun
    have hd : d3 = false := by
     cases d3
     ·rfl
     ·exact absurd (e3 rfl).1 (by decide)
    subst hd
    refine wpOp_do rfl rfl ?_
    simp only [Act.put, List.setIfInBounds_toArray, List.set_cons_zero, List.set_cons_succ]
    go_simp
    go_at_call 52
    refine (QMul_q (Ja1.out.below (bt HW.out hb)) (Ja2.out.below (bt HW.out hb)) (by decide) (by decide)).mono ?_
    rintro e W' ⟨v, rfl, hv, hb'⟩
    have HB' := bt hb hb'
    refine hK.out _ _ (HC.out _ HB') ?_
    exact ⟨k0, k1, k2, true, c0, c1, c2, c3, d0, d1, d2, false, y0, y1, y2, (.agg #[.bool v.n, .slice v.A v.l.length v.c, .bool v.m, .slice v.B v.k.length v.d]), xx0, xx1, xx2, xx3, v0, v1, v2, v, bb0, bb1, bb2, bb3, (by kernel_rfl), (by simp only [Act.put, List.setIfInBounds_toArray, List.set_cons_zero, List.set_cons_succ]), HB', fun h => ⟨(hk0 h).1, (hk0 h).2.below hb'⟩, fun h => ⟨(hk1 h).1, (hk1 h).2.below hb'⟩, fun h => ⟨(hk2 h).1, (hk2 h).2.below hb'⟩, fun _ => ⟨rfl, hv⟩, fun h => ⟨(hc0 h).1, (hc0 h).2.1, (hc0 h).2.2.below hb'⟩, fun h => ⟨(hc1 h).1, (hc1 h).2.1, (hc1 h).2.2.below hb'⟩, fun h => ⟨(hc2 h).1, (hc2 h).2.1, (hc2 h).2.2.below hb'⟩, fun h => ⟨(hc3 h).1, (hc3 h).2.1, (hc3 h).2.2.below hb'⟩, n01, n02, n03, n12, n13, n23, e0, e1, e2, (fun h => by cases h)⟩
   ·obtain rfl : c0 = false := hun
    have hd : d0 = false := by
     cases d0
     ·rfl
     ·exact absurd (e0 rfl).2 (by decide)
    subst hd
    refine wpOp_do rfl rfl ?_
    simp only [Act.put, List.setIfInBounds_toArray, List.set_cons_zero, List.set_cons_succ]
    go_simp
    have hba := ba (b0 W) (.cells #[.bool false, .slice none 0 0, .bool false, .slice none 0 0] 35)
    have HB' := bt hb hba
    refine hK.out _ _ (HC.out _ HB') ?_
    exact ⟨k0, k1, k2, k3, true, c1, c2, c3, false, d1, d2, d3, y0, y1, y2, y3, .pointer (some ⟨W.heap.size, 0, none⟩), xx1, xx2, xx3, v0, v1, v2, v3, W.heap.size, bb1, bb2, bb3, (by kernel_rfl), (by simp only [Act.put, List.setIfInBounds_toArray, List.set_cons_zero, List.set_cons_succ]), HB', fun h => ⟨(hk0 h).1, (hk0 h).2.below hba⟩, fun h => ⟨(hk1 h).1, (hk1 h).2.below hba⟩, fun h => ⟨(hk2 h).1, (hk2 h).2.below hba⟩, fun h => ⟨(hk3 h).1, (hk3 h).2.below hba⟩, fun _ => ⟨rfl, hb.size, Box4.new _ _ _ _ _⟩, fun h => ⟨(hc1 h).1, (hc1 h).2.1, (hc1 h).2.2.below hba⟩, fun h => ⟨(hc2 h).1, (hc2 h).2.1, (hc2 h).2.2.below hba⟩, fun h => ⟨(hc3 h).1, (hc3 h).2.1, (hc3 h).2.2.below hba⟩, fun _ h => Nat.ne_of_gt (hc1 h).2.2.lt, fun _ h => Nat.ne_of_gt (hc2 h).2.2.lt, fun _ h => Nat.ne_of_gt (hc3 h).2.2.lt, n12, n13, n23, (fun h => by cases h), e1, e2, e3⟩
   ·obtain rfl : c1 = false := hun
    have hd : d1 = false := by
     cases d1
     ·rfl
     ·exact absurd (e1 rfl).2 (by decide)
    subst hd
    refine wpOp_do rfl rfl ?_
    simp only [Act.put, List.setIfInBounds_toArray, List.set_cons_zero, List.set_cons_succ]
    go_simp
    have hba := ba (b0 W) (.cells #[.bool false, .slice none 0 0, .bool false, .slice none 0 0] 35)
    have HB' := bt hb hba
    refine hK.out _ _ (HC.out _ HB') ?_
    exact ⟨k0, k1, k2, k3, c0, true, c2, c3, d0, false, d2, d3, y0, y1, y2, y3, xx0, .pointer (some ⟨W.heap.size, 0, none⟩), xx2, xx3, v0, v1, v2, v3, bb0, W.heap.size, bb2, bb3, (by kernel_rfl), (by simp only [Act.put, List.setIfInBounds_toArray, List.set_cons_zero, List.set_cons_succ]), HB', fun h => ⟨(hk0 h).1, (hk0 h).2.below hba⟩, fun h => ⟨(hk1 h).1, (hk1 h).2.below hba⟩, fun h => ⟨(hk2 h).1, (hk2 h).2.below hba⟩, fun h => ⟨(hk3 h).1, (hk3 h).2.below hba⟩, fun h => ⟨(hc0 h).1, (hc0 h).2.1, (hc0 h).2.2.below hba⟩, fun _ => ⟨rfl, hb.size, Box4.new _ _ _ _ _⟩, fun h => ⟨(hc2 h).1, (hc2 h).2.1, (hc2 h).2.2.below hba⟩, fun h => ⟨(hc3 h).1, (hc3 h).2.1, (hc3 h).2.2.below hba⟩, fun h _ => Nat.ne_of_lt (hc0 h).2.2.lt, n02, n03, fun _ h => Nat.ne_of_gt (hc2 h).2.2.lt, fun _ h => Nat.ne_of_gt (hc3 h).2.2.lt, n23, e0, (fun h => by cases h), e2, e3⟩
   ·obtain rfl : c2 = false := hun
    have hd : d2 = false := by
     cases d2
     ·rfl
     ·exact absurd (e2 rfl).2 (by decide)
    subst hd
    refine wpOp_do rfl rfl ?_
    simp only [Act.put, List.setIfInBounds_toArray, List.set_cons_zero, List.set_cons_succ]
    go_simp
    have hba := ba (b0 W) (.cells #[.bool false, .slice none 0 0, .bool false, .slice none 0 0] 35)
    have HB' := bt hb hba
    refine hK.out _ _ (HC.out _ HB') ?_
    exact ⟨k0, k1, k2, k3, c0, c1, true, c3, d0, d1, false, d3, y0, y1, y2, y3, xx0, xx1, .pointer (some ⟨W.heap.size, 0, none⟩), xx3, v0, v1, v2, v3, bb0, bb1, W.heap.size, bb3, (by kernel_rfl), (by simp only [Act.put, List.setIfInBounds_toArray, List.set_cons_zero, List.set_cons_succ]), HB', fun h => ⟨(hk0 h).1, (hk0 h).2.below hba⟩, fun h => ⟨(hk1 h).1, (hk1 h).2.below hba⟩, fun h => ⟨(hk2 h).1, (hk2 h).2.below hba⟩, fun h => ⟨(hk3 h).1, (hk3 h).2.below hba⟩, fun h => ⟨(hc0 h).1, (hc0 h).2.1, (hc0 h).2.2.below hba⟩, fun h => ⟨(hc1 h).1, (hc1 h).2.1, (hc1 h).2.2.below hba⟩, fun _ => ⟨rfl, hb.size, Box4.new _ _ _ _ _⟩, fun h => ⟨(hc3 h).1, (hc3 h).2.1, (hc3 h).2.2.below hba⟩, n01, fun h _ => Nat.ne_of_lt (hc0 h).2.2.lt, n03, fun h _ => Nat.ne_of_lt (hc1 h).2.2.lt, n13, fun _ h => Nat.ne_of_gt (hc3 h).2.2.lt, e0, e1, (fun h => by cases h), e3⟩
   ·obtain rfl : c3 = false := hun
    have hd : d3 = false := by
     cases d3
     ·rfl
     ·exact absurd (e3 rfl).2 (by decide)
    subst hd
    refine wpOp_do rfl rfl ?_
    simp only [Act.put, List.setIfInBounds_toArray, List.set_cons_zero, List.set_cons_succ]
    go_simp
    have hba := ba (b0 W) (.cells #[.bool false, .slice none 0 0, .bool false, .slice none 0 0] 35)
    have HB' := bt hb hba
    refine hK.out _ _ (HC.out _ HB') ?_
    exact ⟨k0, k1, k2, k3, c0, c1, c2, true, d0, d1, d2, false, y0, y1, y2, y3, xx0, xx1, xx2, .pointer (some ⟨W.heap.size, 0, none⟩), v0, v1, v2, v3, bb0, bb1, bb2, W.heap.size, (by kernel_rfl), (by simp only [Act.put, List.setIfInBounds_toArray, List.set_cons_zero, List.set_cons_succ]), HB', fun h => ⟨(hk0 h).1, (hk0 h).2.below hba⟩, fun h => ⟨(hk1 h).1, (hk1 h).2.below hba⟩, fun h => ⟨(hk2 h).1, (hk2 h).2.below hba⟩, fun h => ⟨(hk3 h).1, (hk3 h).2.below hba⟩, fun h => ⟨(hc0 h).1, (hc0 h).2.1, (hc0 h).2.2.below hba⟩, fun h => ⟨(hc1 h).1, (hc1 h).2.1, (hc1 h).2.2.below hba⟩, fun h => ⟨(hc2 h).1, (hc2 h).2.1, (hc2 h).2.2.below hba⟩, fun _ => ⟨rfl, hb.size, Box4.new _ _ _ _ _⟩, n01, n02, fun h _ => Nat.ne_of_lt (hc0 h).2.2.lt, n12, fun h _ => Nat.ne_of_lt (hc1 h).2.2.lt, fun h _ => Nat.ne_of_lt (hc2 h).2.2.lt, e0, e1, e2, (fun h => by cases h)⟩
   ·obtain rfl : d0 = false := hun
    have hedge := ready_edge (j := 12) hi rfl (by kernel_rfl)
    obtain rfl : c0 = true := hedge
    have hedge2 := ready_edge (j := 2) hi rfl (by kernel_rfl)
    obtain rfl : k0 = true := hedge2
    have hz := hc0 rfl
    have hy := hk0 rfl
    have hbx : Box4 W bb0 (.bool false) (.slice none 0 0) (.bool false) (.slice none 0 0) := hz.2.2
    have hL := hz.2.1
    rw [hz.1, hy.1]
    obtain ⟨f0, f1, f2, f3⟩ := hbx.fr
    obtain ⟨r0, r1, r2, r3⟩ := hbx.cs
    clear hz hy
    refine wpOp_do rfl rfl ?_
    simp only [Act.put, List.setIfInBounds_toArray, List.set_cons_zero, List.set_cons_succ]
    go_simp
    have HB' := b4 hb hL (.bool v0.n) (.slice v0.A v0.l.length v0.c) (.bool v0.m) (.slice v0.B v0.k.length v0.d)
    refine hK.out _ _ (HC.out _ HB') ?_
    exact ⟨true, k1, k2, k3, true, c1, c2, c3, true, d1, d2, d3, (.agg #[.bool v0.n, .slice v0.A v0.l.length v0.c, .bool v0.m, .slice v0.B v0.k.length v0.d]), y1, y2, y3, .pointer (some ⟨bb0, 0, none⟩), xx1, xx2, xx3, v0, v1, v2, v3, bb0, bb1, bb2, bb3, (by kernel_rfl), (by simp only [Act.put, List.setIfInBounds_toArray, List.set_cons_zero, List.set_cons_succ]), HB', fun h => ⟨rfl, (hk0 h).2.four hbx _ _ _ _⟩, fun h => ⟨(hk1 h).1, (hk1 h).2.four hbx _ _ _ _⟩, fun h => ⟨(hk2 h).1, (hk2 h).2.four hbx _ _ _ _⟩, fun h => ⟨(hk3 h).1, (hk3 h).2.four hbx _ _ _ _⟩, fun _ => ⟨rfl, hL, hbx.stored _ _ _ _⟩, fun h => ⟨(hc1 h).1, (hc1 h).2.1, (hc1 h).2.2.far4 ((n01 rfl h).symm) _ _ _ _⟩, fun h => ⟨(hc2 h).1, (hc2 h).2.1, (hc2 h).2.2.far4 ((n02 rfl h).symm) _ _ _ _⟩, fun h => ⟨(hc3 h).1, (hc3 h).2.1, (hc3 h).2.2.far4 ((n03 rfl h).symm) _ _ _ _⟩, n01, n02, n03, n12, n13, n23, (fun _ => ⟨rfl, rfl⟩), e1, e2, e3⟩
   ·obtain rfl : d1 = false := hun
    have hedge := ready_edge (j := 13) hi rfl (by kernel_rfl)
    obtain rfl : c1 = true := hedge
    have hedge2 := ready_edge (j := 5) hi rfl (by kernel_rfl)
    obtain rfl : k1 = true := hedge2
    have hz := hc1 rfl
    have hy := hk1 rfl
    have hbx : Box4 W bb1 (.bool false) (.slice none 0 0) (.bool false) (.slice none 0 0) := hz.2.2
    have hL := hz.2.1
    rw [hz.1, hy.1]
    obtain ⟨f0, f1, f2, f3⟩ := hbx.fr
    obtain ⟨r0, r1, r2, r3⟩ := hbx.cs
    clear hz hy
    refine wpOp_do rfl rfl ?_
    simp only [Act.put, List.setIfInBounds_toArray, List.set_cons_zero, List.set_cons_succ]
    go_simp
    have HB' := b4 hb hL (.bool v1.n) (.slice v1.A v1.l.length v1.c) (.bool v1.m) (.slice v1.B v1.k.length v1.d)
    refine hK.out _ _ (HC.out _ HB') ?_
    exact ⟨k0, true, k2, k3, c0, true, c2, c3, d0, true, d2, d3, y0, (.agg #[.bool v1.n, .slice v1.A v1.l.length v1.c, .bool v1.m, .slice v1.B v1.k.length v1.d]), y2, y3, xx0, .pointer (some ⟨bb1, 0, none⟩), xx2, xx3, v0, v1, v2, v3, bb0, bb1, bb2, bb3, (by kernel_rfl), (by simp only [Act.put, List.setIfInBounds_toArray, List.set_cons_zero, List.set_cons_succ]), HB', fun h => ⟨(hk0 h).1, (hk0 h).2.four hbx _ _ _ _⟩, fun h => ⟨rfl, (hk1 h).2.four hbx _ _ _ _⟩, fun h => ⟨(hk2 h).1, (hk2 h).2.four hbx _ _ _ _⟩, fun h => ⟨(hk3 h).1, (hk3 h).2.four hbx _ _ _ _⟩, fun h => ⟨(hc0 h).1, (hc0 h).2.1, (hc0 h).2.2.far4 (n01 h rfl) _ _ _ _⟩, fun _ => ⟨rfl, hL, hbx.stored _ _ _ _⟩, fun h => ⟨(hc2 h).1, (hc2 h).2.1, (hc2 h).2.2.far4 ((n12 rfl h).symm) _ _ _ _⟩, fun h => ⟨(hc3 h).1, (hc3 h).2.1, (hc3 h).2.2.far4 ((n13 rfl h).symm) _ _ _ _⟩, n01, n02, n03, n12, n13, n23, e0, (fun _ => ⟨rfl, rfl⟩), e2, e3⟩
   ·obtain rfl : d2 = false := hun
    have hedge := ready_edge (j := 14) hi rfl (by kernel_rfl)
    obtain rfl : c2 = true := hedge
    have hedge2 := ready_edge (j := 8) hi rfl (by kernel_rfl)
    obtain rfl : k2 = true := hedge2
    have hz := hc2 rfl
    have hy := hk2 rfl
    have hbx : Box4 W bb2 (.bool false) (.slice none 0 0) (.bool false) (.slice none 0 0) := hz.2.2
    have hL := hz.2.1
    rw [hz.1, hy.1]
    obtain ⟨f0, f1, f2, f3⟩ := hbx.fr
    obtain ⟨r0, r1, r2, r3⟩ := hbx.cs
    clear hz hy
    refine wpOp_do rfl rfl ?_
    simp only [Act.put, List.setIfInBounds_toArray, List.set_cons_zero, List.set_cons_succ]
    go_simp
    have HB' := b4 hb hL (.bool v2.n) (.slice v2.A v2.l.length v2.c) (.bool v2.m) (.slice v2.B v2.k.length v2.d)
    refine hK.out _ _ (HC.out _ HB') ?_
    exact ⟨k0, k1, true, k3, c0, c1, true, c3, d0, d1, true, d3, y0, y1, (.agg #[.bool v2.n, .slice v2.A v2.l.length v2.c, .bool v2.m, .slice v2.B v2.k.length v2.d]), y3, xx0, xx1, .pointer (some ⟨bb2, 0, none⟩), xx3, v0, v1, v2, v3, bb0, bb1, bb2, bb3, (by kernel_rfl), (by simp only [Act.put, List.setIfInBounds_toArray, List.set_cons_zero, List.set_cons_succ]), HB', fun h => ⟨(hk0 h).1, (hk0 h).2.four hbx _ _ _ _⟩, fun h => ⟨(hk1 h).1, (hk1 h).2.four hbx _ _ _ _⟩, fun h => ⟨rfl, (hk2 h).2.four hbx _ _ _ _⟩, fun h => ⟨(hk3 h).1, (hk3 h).2.four hbx _ _ _ _⟩, fun h => ⟨(hc0 h).1, (hc0 h).2.1, (hc0 h).2.2.far4 (n02 h rfl) _ _ _ _⟩, fun h => ⟨(hc1 h).1, (hc1 h).2.1, (hc1 h).2.2.far4 (n12 h rfl) _ _ _ _⟩, fun _ => ⟨rfl, hL, hbx.stored _ _ _ _⟩, fun h => ⟨(hc3 h).1, (hc3 h).2.1, (hc3 h).2.2.far4 ((n23 rfl h).symm) _ _ _ _⟩, n01, n02, n03, n12, n13, n23, e0, e1, (fun _ => ⟨rfl, rfl⟩), e3⟩
   ·obtain rfl : d3 = false := hun
    have hedge := ready_edge (j := 15) hi rfl (by kernel_rfl)
    obtain rfl : c3 = true := hedge
    have hedge2 := ready_edge (j := 11) hi rfl (by kernel_rfl)
    obtain rfl : k3 = true := hedge2
    have hz := hc3 rfl
    have hy := hk3 rfl
    have hbx : Box4 W bb3 (.bool false) (.slice none 0 0) (.bool false) (.slice none 0 0) := hz.2.2
    have hL := hz.2.1
    rw [hz.1, hy.1]
    obtain ⟨f0, f1, f2, f3⟩ := hbx.fr
    obtain ⟨r0, r1, r2, r3⟩ := hbx.cs
    clear hz hy
    refine wpOp_do rfl rfl ?_
    simp only [Act.put, List.setIfInBounds_toArray, List.set_cons_zero, List.set_cons_succ]
    go_simp
    have HB' := b4 hb hL (.bool v3.n) (.slice v3.A v3.l.length v3.c) (.bool v3.m) (.slice v3.B v3.k.length v3.d)
    refine hK.out _ _ (HC.out _ HB') ?_
    exact ⟨k0, k1, k2, true, c0, c1, c2, true, d0, d1, d2, true, y0, y1, y2, (.agg #[.bool v3.n, .slice v3.A v3.l.length v3.c, .bool v3.m, .slice v3.B v3.k.length v3.d]), xx0, xx1, xx2, .pointer (some ⟨bb3, 0, none⟩), v0, v1, v2, v3, bb0, bb1, bb2, bb3, (by kernel_rfl), (by simp only [Act.put, List.setIfInBounds_toArray, List.set_cons_zero, List.set_cons_succ]), HB', fun h => ⟨(hk0 h).1, (hk0 h).2.four hbx _ _ _ _⟩, fun h => ⟨(hk1 h).1, (hk1 h).2.four hbx _ _ _ _⟩, fun h => ⟨(hk2 h).1, (hk2 h).2.four hbx _ _ _ _⟩, fun h => ⟨rfl, (hk3 h).2.four hbx _ _ _ _⟩, fun h => ⟨(hc0 h).1, (hc0 h).2.1, (hc0 h).2.2.far4 (n03 h rfl) _ _ _ _⟩, fun h => ⟨(hc1 h).1, (hc1 h).2.1, (hc1 h).2.2.far4 (n13 h rfl) _ _ _ _⟩, fun h => ⟨(hc2 h).1, (hc2 h).2.1, (hc2 h).2.2.far4 (n23 h rfl) _ _ _ _⟩, fun _ => ⟨rfl, hL, hbx.stored _ _ _ _⟩, n01, n02, n03, n12, n13, n23, e0, e1, e2, (fun _ => ⟨rfl, rfl⟩)⟩
  ·rintro L a W ⟨k0, k1, k2, k3, c0, c1, c2, c3, d0, d1, d2, d3, y0, y1, y2, y3, xx0, xx1, xx2, xx3, v0, v1, v2, v3, bb0, bb1, bb2, bb3, rfl, rfl, hb, hk0, hk1, hk2, hk3, hc0, hc1, hc2, hc3, n01, n02, n03, n12, n13, n23, e0, e1, e2, e3⟩ hr
   have hall := none_left (by kernel_rfl) rfl hr
   obtain rfl : k0 = true := hall 2 (by decide)
   obtain rfl : c0 = true := hall 12 (by decide)
   obtain rfl : d0 = true := hall 16 (by decide)
   have z0 := hc0 rfl
   have u0 := hk0 rfl
   obtain rfl : k1 = true := hall 5 (by decide)
   obtain rfl : c1 = true := hall 13 (by decide)
   obtain rfl : d1 = true := hall 17 (by decide)
   have z1 := hc1 rfl
   have u1 := hk1 rfl
   obtain rfl : k2 = true := hall 8 (by decide)
   obtain rfl : c2 = true := hall 14 (by decide)
   obtain rfl : d2 = true := hall 18 (by decide)
   have z2 := hc2 rfl
   have u2 := hk2 rfl
   obtain rfl : k3 = true := hall 11 (by decide)
   obtain rfl : c3 = true := hall 15 (by decide)
   obtain rfl : d3 = true := hall 19 (by decide)
   have z3 := hc3 rfl
   have u3 := hk3 rfl
   clear hall hr hk0 hk1 hk2 hk3 hc0 hc1 hc2 hc3 e0 e1 e2 e3
   have HZ := Hi (show Laid4 w4 17 17 16 16 (q0 + q1) (q1 + q2) (q0 * q1) (q1 * q2) xx0 xx1 xx2 xx3 W from ⟨v0, v1, v2, v3, bb0, bb1, bb2, bb3, ⟨z0.1, z0.2.1, z0.2.2, u0.2⟩, ⟨z1.1, z1.2.1, z1.2.2, u1.2⟩, ⟨z2.1, z2.2.1, z2.2.2, u2.2⟩, ⟨z3.1, z3.2.1, z3.2.2, u3.2⟩, ⟨n01 rfl rfl, n02 rfl rfl, n03 rfl rfl, n12 rfl rfl, n13 rfl rfl, n23 rfl rfl⟩, hb⟩)
   clear z0 u0 z1 u1 z2 u2 z3 u3 n01 n02 n03 n12 n13 n23
   go_wp2_with fail
   try simp only [Act.put, List.setIfInBounds_toArray, List.set_cons_zero, List.set_cons_succ]
   go_meet
   exact HZ.out
 case rest =>
 obtain ⟨ab, bc, p, q, xabp, xbcp, xpp, xqp, ⟨rfl, hg0, xab, hab⟩, ⟨rfl, hg1, xbc, hbc⟩, ⟨rfl, hg2, xp, hp⟩, ⟨rfl, hg3, xq, hq⟩, ⟨Nxab_xbc, Nxab_xp, Nxab_xq, Nxbc_xp, Nxbc_xq, Nxp_xq⟩, hb⟩ := hcut
 obtain ⟨w5, hwn⟩ : ∃ v, v = wc := ⟨_, rfl⟩
 rw [← hwn] at hb xab xbc xp xq hab hbc hp hq ⊢
 clear hwn wc
 have xabg : w.heap.size ≤ xabp := by have := hw3_.size; omega
 have Nx0_xab : Hid (w.heap.size < xabp) := Hi (by have := x0.lt; omega)
 have Nx1_xab : Hid (w.heap.size + 1 < xabp) := Hi (by have := x1.lt; omega)
 have Nx2_xab : Hid (w.heap.size + 1 + 1 < xabp) := Hi (by have := x2.lt; omega)
 have xbcg : w.heap.size ≤ xbcp := by have := hw3_.size; omega
 have Nx0_xbc : Hid (w.heap.size < xbcp) := Hi (by have := x0.lt; omega)
 have Nx1_xbc : Hid (w.heap.size + 1 < xbcp) := Hi (by have := x1.lt; omega)
 have Nx2_xbc : Hid (w.heap.size + 1 + 1 < xbcp) := Hi (by have := x2.lt; omega)
 have xpg : w.heap.size ≤ xpp := by have := hw3_.size; omega
 have Nx0_xp : Hid (w.heap.size < xpp) := Hi (by have := x0.lt; omega)
 have Nx1_xp : Hid (w.heap.size + 1 < xpp) := Hi (by have := x1.lt; omega)
 have Nx2_xp : Hid (w.heap.size + 1 + 1 < xpp) := Hi (by have := x2.lt; omega)
 have xqg : w.heap.size ≤ xqp := by have := hw3_.size; omega
 have Nx0_xq : Hid (w.heap.size < xqp) := Hi (by have := x0.lt; omega)
 have Nx1_xq : Hid (w.heap.size + 1 < xqp) := Hi (by have := x1.lt; omega)
 have Nx2_xq : Hid (w.heap.size + 1 + 1 < xqp) := Hi (by have := x2.lt; omega)
 clear hg0 hg1 hg2 hg3 Nxab_xbc Nxab_xp Nxab_xq Nxbc_xp Nxbc_xq Nxp_xq
 have Jab := Hi hab
 clear hab
 have Jbc := Hi hbc
 clear hbc
 have Jp := Hi hp
 clear hp
 have Jq := Hi hq
 clear hq
 replace x0 := x0.below hb
 replace x1 := x1.below hb
 replace x2 := x2.below hb
 have hw4_ := bt hw3_ hb
 clear hb hw3_
 go_wp2_with fail
 go_cut [15] (fun v wx => v = .bool true ∧ Below w5.heap.size w5 wx)
 case first =>
  as_aux_lemma =>
  have HC := (hj x0.hc (hj x1.hc (hj x2.hc (hj xab.hc xbc.hc))))
  have HW := Hi hw4_
  have Gx0 := Hi x0
  have Gx1 := Hi x1
  have Gx2 := Hi x2
  have Gxab := Hi xab
  have Gxbc := Hi xbc
  have Gxp := Hi xp
  have Gxq := Hi xq
  clear x0 x1 x2 xab xbc xp xq hw4_
  refine rgh HC fun hHeld => ?_
  refine tk 0 ?_
  refine tk 1 ?_
  refine tk 2 ?_
  refine cl 3 fun K hK => ?_
  go_simp
  go_at_call 48
  refine (QAdd_q (Ja1.out.below (bt HW.out (bw (b0 _)))) (Ja0.out.below (bt HW.out (bw (b0 _)))) (by decide) (by decide)).mono ?_
  rintro e y7 ⟨s1, rfl, hs1, hb⟩
  have HBy7 := Hi (bt (bw (b0 w5)) hb)
  have Js1 := Hi hs1
  clear hb hs1 hHeld
  refine rk hK (HC.out _ HBy7.out) fun hHeld => ?_
  clear hK K
  refine cl 4 fun K hK => ?_
  go_simp
  go_at_call 32
  refine (QSame_qe (Jab.out.below HBy7.out) Js1.out (Rat.add_comm _ _) (by decide) (by decide)).mono ?_
  rintro e y8 ⟨rfl, hb⟩
  replace Js1 := Hi (Js1.out.below hb)
  have HBy8 := Hi (bt HBy7.out hb)
  clear hb  hHeld
  refine rk hK (HC.out _ HBy8.out) fun hHeld => ?_
  clear hK K
  refine tk 5 ?_
  refine tk 6 ?_
  refine tk 7 ?_
  refine tk 9 ?_
  refine tk 10 ?_
  refine cl 8 fun K hK => ?_
  go_simp
  go_at_call 48
  refine (QAdd_q (Jab.out.below HBy8.out) (Ja2.out.below (bt HW.out HBy8.out)) (by decide) (by decide)).mono ?_
  rintro e y9 ⟨s2, rfl, hs2, hb⟩
  replace Js1 := Hi (Js1.out.below hb)
  have HBy9 := Hi (bt HBy8.out hb)
  have Js2 := Hi hs2
  clear hb hs2 hHeld
  refine rk hK (HC.out _ HBy9.out) fun hHeld => ?_
  clear hK K
  refine cl 11 fun K hK => ?_
  go_simp
  go_at_call 48
  refine (QAdd_q (Ja0.out.below (bt HW.out HBy9.out)) (Jbc.out.below HBy9.out) (by decide) (by decide)).mono ?_
  rintro e y10 ⟨s3, rfl, hs3, hb⟩
  replace Js1 := Hi (Js1.out.below hb)
  replace Js2 := Hi (Js2.out.below hb)
  have HBy10 := Hi (bt HBy9.out hb)
  have Js3 := Hi hs3
  clear hb hs3 hHeld
  refine rk hK (HC.out _ HBy10.out) fun hHeld => ?_
  clear hK K
  refine cl 12 fun K hK => ?_
  go_simp
  go_at_call 32
  refine (QSame_qe Js2.out Js3.out (Rat.add_assoc _ _ _) (by decide) (by decide)).mono ?_
  rintro e y11 ⟨rfl, hb⟩
  replace Js1 := Hi (Js1.out.below hb)
  replace Js2 := Hi (Js2.out.below hb)
  replace Js3 := Hi (Js3.out.below hb)
  have HBy11 := Hi (bt HBy10.out hb)
  clear hb  hHeld
  refine rk hK (HC.out _ HBy11.out) fun hHeld => ?_
  clear hK K
  refine tk 13 ?_
  refine tk 14 ?_
  refine tk 15 ?_
  refine tk 16 ?_
  refine tk 18 ?_
  refine cl 17 fun K hK => ?_
  go_simp
  go_at_call 50
  refine (QSub_q (Jab.out.below HBy11.out) (Ja1.out.below (bt HW.out HBy11.out)) (by decide) (by decide)).mono ?_
  rintro e y12 ⟨s4, rfl, hs4, hb⟩
  replace Js1 := Hi (Js1.out.below hb)
  replace Js2 := Hi (Js2.out.below hb)
  replace Js3 := Hi (Js3.out.below hb)
  have HBy12 := Hi (bt HBy11.out hb)
  have Js4 := Hi hs4
  clear hb hs4 hHeld
  refine rk hK (HC.out _ HBy12.out) fun hHeld => ?_
  clear hK K
  refine cl 19 fun K hK => ?_
  go_simp
  go_at_call 32
  refine (QSame_qe Js4.out (Ja0.out.below (bt HW.out HBy12.out)) (Rat.add_sub_cancel) (by decide) (by decide)).mono ?_
  rintro e y13 ⟨rfl, hb⟩
  replace Js1 := Hi (Js1.out.below hb)
  replace Js2 := Hi (Js2.out.below hb)
  replace Js3 := Hi (Js3.out.below hb)
  replace Js4 := Hi (Js4.out.below hb)
  have HBy13 := Hi (bt HBy12.out hb)
  clear hb  hHeld
  refine rk hK (HC.out _ HBy13.out) fun hHeld => ?_
  clear hK K
  refine tk 20 ?_
  refine tk 21 ?_
  refine tk 22 ?_
  refine tk 25 ?_
  refine cl 23 fun K hK => ?_
  go_simp
  go_at_call 63
  refine (of_q _ 0 1 (by decide) (by decide) (by decide)).mono ?_
  rintro e y14 ⟨s5, rfl, hs5, hb⟩
  replace Js1 := Hi (Js1.out.below hb)
  replace Js2 := Hi (Js2.out.below hb)
  replace Js3 := Hi (Js3.out.below hb)
  replace Js4 := Hi (Js4.out.below hb)
  have HBy14 := Hi (bt HBy13.out hb)
  have Js5 := Hi hs5
  clear hb hs5 hHeld
  refine rk hK (HC.out _ HBy14.out) fun hHeld => ?_
  clear hK K
  refine cl 24 fun K hK => ?_
  go_simp
  go_at_call 48
  refine (QAdd_q (Ja0.out.below (bt HW.out HBy14.out)) Js5.out (by decide) (by decide)).mono ?_
  rintro e y15 ⟨s6, rfl, hs6, hb⟩
  replace Js1 := Hi (Js1.out.below hb)
  replace Js2 := Hi (Js2.out.below hb)
  replace Js3 := Hi (Js3.out.below hb)
  replace Js4 := Hi (Js4.out.below hb)
  replace Js5 := Hi (Js5.out.below hb)
  have HBy15 := Hi (bt HBy14.out hb)
  have Js6 := Hi hs6
  clear hb hs6 hHeld
  refine rk hK (HC.out _ HBy15.out) fun hHeld => ?_
  clear hK K
  refine cl 26 fun K hK => ?_
  go_simp
  go_at_call 32
  refine (QSame_qe Js6.out (Ja0.out.below (bt HW.out HBy15.out)) (q_add_zero _) (by decide) (by decide)).mono ?_
  rintro e y16 ⟨rfl, hb⟩
  replace Js1 := Hi (Js1.out.below hb)
  replace Js2 := Hi (Js2.out.below hb)
  replace Js3 := Hi (Js3.out.below hb)
  replace Js4 := Hi (Js4.out.below hb)
  replace Js5 := Hi (Js5.out.below hb)
  replace Js6 := Hi (Js6.out.below hb)
  have HBy16 := Hi (bt HBy15.out hb)
  clear hb  hHeld
  refine rk hK (HC.out _ HBy16.out) fun hHeld => ?_
  clear hK K
  refine tk 27 ?_
  refine tk 28 ?_
  refine wpAnyH_done (by kernel_rfl) ?_ _
  clear hHeld
  go_wp2_with fail
  go_meet
  exact ⟨rfl, HBy16.out⟩
 case rest =>
 obtain ⟨rfl, hb⟩ := hcut
 obtain ⟨w6, hwn⟩ : ∃ v, v = wc := ⟨_, rfl⟩
 rw [← hwn] at hb ⊢
 clear hwn wc
 replace x0 := x0.below hb
 replace x1 := x1.below hb
 replace x2 := x2.below hb
 replace xab := xab.below hb
 replace xbc := xbc.below hb
 replace xp := xp.below hb
 replace xq := xq.below hb
 replace Jab := Hi (Jab.out.below hb)
 replace Jbc := Hi (Jbc.out.below hb)
 replace Jp := Hi (Jp.out.below hb)
 replace Jq := Hi (Jq.out.below hb)
 have hw5_ := bt hw4_ hb
 clear hb hw4_
 as_aux_lemma =>
 go_wp2_with fail
 go_cut [16] (fun v wx => v = .bool true ∧ Below w6.heap.size w6 wx)
 case first =>
  as_aux_lemma =>
  have HC := (hj x0.hc (hj x1.hc (hj x2.hc (hj xp.hc (hj xq.hc xbc.hc)))))
  have HW := Hi hw5_
  have Gx0 := Hi x0
  have Gx1 := Hi x1
  have Gx2 := Hi x2
  have Gxab := Hi xab
  have Gxbc := Hi xbc
  have Gxp := Hi xp
  have Gxq := Hi xq
  clear x0 x1 x2 xab xbc xp xq hw5_
  refine rgh HC fun hHeld => ?_
  refine tk 0 ?_
  refine tk 1 ?_
  refine tk 2 ?_
  refine cl 3 fun K hK => ?_
  go_simp
  go_at_call 52
  refine (QMul_q (Ja1.out.below (bt HW.out (bw (b0 _)))) (Ja0.out.below (bt HW.out (bw (b0 _)))) (by decide) (by decide)).mono ?_
  rintro e y18 ⟨s1, rfl, hs1, hb⟩
  have HBy18 := Hi (bt (bw (b0 w6)) hb)
  have Js1 := Hi hs1
  clear hb hs1 hHeld
  refine rk hK (HC.out _ HBy18.out) fun hHeld => ?_
  clear hK K
  refine cl 4 fun K hK => ?_
  go_simp
  go_at_call 32
  refine (QSame_qe (Jp.out.below HBy18.out) Js1.out (Rat.mul_comm _ _) (by decide) (by decide)).mono ?_
  rintro e y19 ⟨rfl, hb⟩
  replace Js1 := Hi (Js1.out.below hb)
  have HBy19 := Hi (bt HBy18.out hb)
  clear hb  hHeld
  refine rk hK (HC.out _ HBy19.out) fun hHeld => ?_
  clear hK K
  refine tk 5 ?_
  refine tk 6 ?_
  refine tk 7 ?_
  refine tk 9 ?_
  refine tk 10 ?_
  refine cl 8 fun K hK => ?_
  go_simp
  go_at_call 52
  refine (QMul_q (Jp.out.below HBy19.out) (Ja2.out.below (bt HW.out HBy19.out)) (by decide) (by decide)).mono ?_
  rintro e y20 ⟨s2, rfl, hs2, hb⟩
  replace Js1 := Hi (Js1.out.below hb)
  have HBy20 := Hi (bt HBy19.out hb)
  have Js2 := Hi hs2
  clear hb hs2 hHeld
  refine rk hK (HC.out _ HBy20.out) fun hHeld => ?_
  clear hK K
  refine cl 11 fun K hK => ?_
  go_simp
  go_at_call 52
  refine (QMul_q (Ja0.out.below (bt HW.out HBy20.out)) (Jq.out.below HBy20.out) (by decide) (by decide)).mono ?_
  rintro e y21 ⟨s3, rfl, hs3, hb⟩
  replace Js1 := Hi (Js1.out.below hb)
  replace Js2 := Hi (Js2.out.below hb)
  have HBy21 := Hi (bt HBy20.out hb)
  have Js3 := Hi hs3
  clear hb hs3 hHeld
  refine rk hK (HC.out _ HBy21.out) fun hHeld => ?_
  clear hK K
  refine cl 12 fun K hK => ?_
  go_simp
  go_at_call 32
  refine (QSame_qe Js2.out Js3.out (Rat.mul_assoc _ _ _) (by decide) (by decide)).mono ?_
  rintro e y22 ⟨rfl, hb⟩
  replace Js1 := Hi (Js1.out.below hb)
  replace Js2 := Hi (Js2.out.below hb)
  replace Js3 := Hi (Js3.out.below hb)
  have HBy22 := Hi (bt HBy21.out hb)
  clear hb  hHeld
  refine rk hK (HC.out _ HBy22.out) fun hHeld => ?_
  clear hK K
  refine tk 13 ?_
  refine tk 14 ?_
  refine tk 15 ?_
  refine tk 16 ?_
  refine tk 18 ?_
  refine tk 19 ?_
  refine tk 20 ?_
  refine cl 17 fun K hK => ?_
  go_simp
  go_at_call 52
  refine (QMul_q (Ja0.out.below (bt HW.out HBy22.out)) (Jbc.out.below HBy22.out) (by decide) (by decide)).mono ?_
  rintro e y23 ⟨s4, rfl, hs4, hb⟩
  replace Js1 := Hi (Js1.out.below hb)
  replace Js2 := Hi (Js2.out.below hb)
  replace Js3 := Hi (Js3.out.below hb)
  have HBy23 := Hi (bt HBy22.out hb)
  have Js4 := Hi hs4
  clear hb hs4 hHeld
  refine rk hK (HC.out _ HBy23.out) fun hHeld => ?_
  clear hK K
  refine cl 21 fun K hK => ?_
  go_simp
  go_at_call 52
  refine (QMul_q (Ja0.out.below (bt HW.out HBy23.out)) (Ja2.out.below (bt HW.out HBy23.out)) (by decide) (by decide)).mono ?_
  rintro e y24 ⟨s7, rfl, hs7, hb⟩
  replace Js1 := Hi (Js1.out.below hb)
  replace Js2 := Hi (Js2.out.below hb)
  replace Js3 := Hi (Js3.out.below hb)
  replace Js4 := Hi (Js4.out.below hb)
  have HBy24 := Hi (bt HBy23.out hb)
  have Js7 := Hi hs7
  clear hb hs7 hHeld
  refine rk hK (HC.out _ HBy24.out) fun hHeld => ?_
  clear hK K
  refine cl 22 fun K hK => ?_
  go_simp
  go_at_call 48
  refine (QAdd_q (Jp.out.below HBy24.out) Js7.out (by decide) (by decide)).mono ?_
  rintro e y25 ⟨s8, rfl, hs8, hb⟩
  replace Js1 := Hi (Js1.out.below hb)
  replace Js2 := Hi (Js2.out.below hb)
  replace Js3 := Hi (Js3.out.below hb)
  replace Js4 := Hi (Js4.out.below hb)
  replace Js7 := Hi (Js7.out.below hb)
  have HBy25 := Hi (bt HBy24.out hb)
  have Js8 := Hi hs8
  clear hb hs8 hHeld
  refine rk hK (HC.out _ HBy25.out) fun hHeld => ?_
  clear hK K
  refine cl 23 fun K hK => ?_
  go_simp
  go_at_call 32
  refine (QSame_qe Js4.out Js8.out (Rat.mul_add _ _ _) (by decide) (by decide)).mono ?_
  rintro e y26 ⟨rfl, hb⟩
  replace Js1 := Hi (Js1.out.below hb)
  replace Js2 := Hi (Js2.out.below hb)
  replace Js3 := Hi (Js3.out.below hb)
  replace Js4 := Hi (Js4.out.below hb)
  replace Js7 := Hi (Js7.out.below hb)
  replace Js8 := Hi (Js8.out.below hb)
  have HBy26 := Hi (bt HBy25.out hb)
  clear hb  hHeld
  refine rk hK (HC.out _ HBy26.out) fun hHeld => ?_
  clear hK K
  refine tk 24 ?_
  refine tk 25 ?_
  refine tk 26 ?_
  refine tk 29 ?_
  refine cl 27 fun K hK => ?_
  go_simp
  go_at_call 63
  refine (of_q _ 1 1 (by decide) (by decide) (by decide)).mono ?_
  rintro e y27 ⟨s5, rfl, hs5, hb⟩
  replace Js1 := Hi (Js1.out.below hb)
  replace Js2 := Hi (Js2.out.below hb)
  replace Js3 := Hi (Js3.out.below hb)
  replace Js4 := Hi (Js4.out.below hb)
  replace Js7 := Hi (Js7.out.below hb)
  replace Js8 := Hi (Js8.out.below hb)
  have HBy27 := Hi (bt HBy26.out hb)
  have Js5 := Hi hs5
  clear hb hs5 hHeld
  refine rk hK (HC.out _ HBy27.out) fun hHeld => ?_
  clear hK K
  refine cl 28 fun K hK => ?_
  go_simp
  go_at_call 52
  refine (QMul_q (Ja0.out.below (bt HW.out HBy27.out)) Js5.out (by decide) (by decide)).mono ?_
  rintro e y28 ⟨s6, rfl, hs6, hb⟩
  replace Js1 := Hi (Js1.out.below hb)
  replace Js2 := Hi (Js2.out.below hb)
  replace Js3 := Hi (Js3.out.below hb)
  replace Js4 := Hi (Js4.out.below hb)
  replace Js7 := Hi (Js7.out.below hb)
  replace Js8 := Hi (Js8.out.below hb)
  replace Js5 := Hi (Js5.out.below hb)
  have HBy28 := Hi (bt HBy27.out hb)
  have Js6 := Hi hs6
  clear hb hs6 hHeld
  refine rk hK (HC.out _ HBy28.out) fun hHeld => ?_
  clear hK K
  refine cl 30 fun K hK => ?_
  go_simp
  go_at_call 32
  refine (QSame_qe Js6.out (Ja0.out.below (bt HW.out HBy28.out)) (q_mul_one _) (by decide) (by decide)).mono ?_
  rintro e y29 ⟨rfl, hb⟩
  replace Js1 := Hi (Js1.out.below hb)
  replace Js2 := Hi (Js2.out.below hb)
  replace Js3 := Hi (Js3.out.below hb)
  replace Js4 := Hi (Js4.out.below hb)
  replace Js7 := Hi (Js7.out.below hb)
  replace Js8 := Hi (Js8.out.below hb)
  replace Js5 := Hi (Js5.out.below hb)
  replace Js6 := Hi (Js6.out.below hb)
  have HBy29 := Hi (bt HBy28.out hb)
  clear hb  hHeld
  refine rk hK (HC.out _ HBy29.out) fun hHeld => ?_
  clear hK K
  refine tk 31 ?_
  refine tk 32 ?_
  refine wpAnyH_done (by kernel_rfl) ?_ _
  clear hHeld
  go_wp2_with fail
  go_meet
  exact ⟨rfl, HBy29.out⟩
 case rest =>
 obtain ⟨rfl, hb⟩ := hcut
 obtain ⟨w17, hwn⟩ : ∃ v, v = wc := ⟨_, rfl⟩
 rw [← hwn] at hb ⊢
 clear hwn wc
 replace x0 := x0.below hb
 replace x1 := x1.below hb
 replace x2 := x2.below hb
 replace xab := xab.below hb
 replace xbc := xbc.below hb
 replace xp := xp.below hb
 replace xq := xq.below hb
 replace Jab := Hi (Jab.out.below hb)
 replace Jbc := Hi (Jbc.out.below hb)
 replace Jp := Hi (Jp.out.below hb)
 replace Jq := Hi (Jq.out.below hb)
 have hw6_ := bt hw5_ hb
 clear hb hw5_
 as_aux_lemma =>
 obtain ⟨C00, C01, C02, C03⟩ := x0.cs
 obtain ⟨C10, C11, C12, C13⟩ := x1.cs
 go_wp2_with fail
 refine (QCmp_q (Ja0.out.below hw6_) (Ja1.out.below hw6_) (by decide) (by decide)).mono ?_
 rintro e w30 ⟨rfl, hb⟩
 clear C00 C01 C02 C03 C10 C11 C12 C13
 replace x0 := x0.below hb
 replace x1 := x1.below hb
 replace x2 := x2.below hb
 replace xab := xab.below hb
 replace xbc := xbc.below hb
 replace xp := xp.below hb
 replace xq := xq.below hb
 replace Jab := Hi (Jab.out.below hb)
 replace Jbc := Hi (Jbc.out.below hb)
 replace Jp := Hi (Jp.out.below hb)
 replace Jq := Hi (Jq.out.below hb)
 have hw7_ := bt hw6_ hb
 clear hb hw6_
 obtain ⟨dv, hdv⟩ : ∃ v, v = cmpQ q0 q1 := ⟨_, rfl⟩
 rw [← hdv]
 have HDV := Hi hdv
 clear hdv
 go_wp2_with fail
 obtain ⟨cv, hcv⟩ : ∃ v, v = cmpQ q1 q0 := ⟨_, rfl⟩
 have hwr : IntKind.i64.wrap (-cv) = dv := by rw [hcv, HDV.out]; exact wrap_cmp q0 q1
 have HCV := Hi hcv
 clear hcv
 obtain ⟨sv, hsv⟩ : ∃ v, v = cmpQ q2 0 := ⟨_, rfl⟩
 have HSV := Hi hsv
 clear hsv
 go_cut [18] (fun v wx => v = .bool true ∧ Below w30.heap.size w30 wx)
 case first =>
  as_aux_lemma =>
  have HC := (hj x0.hc (hj x1.hc (hj x2.hc (hj xbc.hc xq.hc))))
  have HW := Hi hw7_
  have Gx0 := Hi x0
  have Gx1 := Hi x1
  have Gx2 := Hi x2
  have Gxab := Hi xab
  have Gxbc := Hi xbc
  have Gxp := Hi xp
  have Gxq := Hi xq
  clear x0 x1 x2 xab xbc xp xq hw7_
  have hspl : sv ≤ 0 ∨ ¬ sv ≤ 0 := by omega
  rcases hspl with hsp | hsp
  ·refine rgh HC fun hHeld => ?_
   refine tk 0 ?_
   refine tk 1 ?_
   refine tk 2 ?_
   refine cl 3 fun K hK => ?_
   go_simp
   go_at_call 50
   refine (QSub_q (Ja0.out.below (bt HW.out (bw (b0 _)))) (Ja1.out.below (bt HW.out (bw (b0 _)))) (by decide) (by decide)).mono ?_
   rintro e y32 ⟨s1, rfl, hs1, hb⟩
   have HBy32 := Hi (bt (bw (b0 w30)) hb)
   have Js1 := Hi hs1
   clear hb hs1 hHeld
   refine rk hK (HC.out _ HBy32.out) fun hHeld => ?_
   clear hK K
   refine cl 4 fun K hK => ?_
   go_simp
   go_at_call 40
   refine (QSign_v Js1.out ((cmpQ_sub _ _).trans HDV.out.symm) (by decide)).mono ?_
   rintro e y33 ⟨rfl, hb⟩
   replace Js1 := Hi (Js1.out.below hb)
   have HBy33 := Hi (bt HBy32.out hb)
   clear hb  hHeld
   refine rk hK (HC.out _ HBy33.out) fun hHeld => ?_
   clear hK K
   refine tk 5 ?_
   refine tk 6 ?_
   refine tk 7 ?_
   refine tk 8 ?_
   refine tk 9 ?_
   refine cl 10 fun K hK => ?_
   go_simp
   go_at_call 42
   refine (QCmp_v (Ja1.out.below (bt HW.out HBy33.out)) (Ja0.out.below (bt HW.out HBy33.out)) (HCV.out.symm) (by decide) (by decide)).mono ?_
   rintro e y34 ⟨rfl, hb⟩
   replace Js1 := Hi (Js1.out.below hb)
   have HBy34 := Hi (bt HBy33.out hb)
   clear hb  hHeld
   refine rk hK (HC.out _ HBy34.out) fun hHeld => ?_
   clear hK K
   refine tk 11 ?_
   refine tk 12 ?_
   refine tk 13 ?_
   refine tk 14 ?_
   refine tk 15 ?_
   refine tk 16 ?_
   refine tk 17 ?_
   refine tk 19 ?_
   refine cl 18 fun K hK => ?_
   go_simp
   go_at_call 48
   refine (QAdd_q (Ja0.out.below (bt HW.out HBy34.out)) (Ja2.out.below (bt HW.out HBy34.out)) (by decide) (by decide)).mono ?_
   rintro e y35 ⟨s2, rfl, hs2, hb⟩
   replace Js1 := Hi (Js1.out.below hb)
   have HBy35 := Hi (bt HBy34.out hb)
   have Js2 := Hi hs2
   clear hb hs2 hHeld
   refine rk hK (HC.out _ HBy35.out) fun hHeld => ?_
   clear hK K
   refine cl 20 fun K hK => ?_
   go_simp
   go_at_call 42
   refine (QCmp_v Js2.out (Jbc.out.below HBy35.out) ((cmpQ_add _ _ _).trans HDV.out.symm) (by decide) (by decide)).mono ?_
   rintro e y36 ⟨rfl, hb⟩
   replace Js1 := Hi (Js1.out.below hb)
   replace Js2 := Hi (Js2.out.below hb)
   have HBy36 := Hi (bt HBy35.out hb)
   clear hb  hHeld
   refine rk hK (HC.out _ HBy36.out) fun hHeld => ?_
   clear hK K
   refine tk 21 ?_
   refine tk 22 ?_
   refine tk 23 ?_
   refine tk 24 ?_
   refine cl 25 fun K hK => ?_
   go_simp
   go_at_call 40
   refine (QSign_v (Ja2.out.below (bt HW.out HBy36.out)) (HSV.out.symm) (by decide)).mono ?_
   rintro e y37 ⟨rfl, hb⟩
   replace Js1 := Hi (Js1.out.below hb)
   replace Js2 := Hi (Js2.out.below hb)
   have HBy37 := Hi (bt HBy36.out hb)
   clear hb  hHeld
   refine rk hK (HC.out _ HBy37.out) fun hHeld => ?_
   clear hK K
   refine tk 26 ?_
   refine tk 27 ?_
   refine wpAnyH_take (i := 28) (oi := { dst := some 151, op := Op.move (Operand.tmp 17), type := 3, pos := "law.go:127", after := #[{ on := 27, ground := Ground.guard }], guard := some (27, false) }) (v := undef) rfl (by kernel_rfl) (by kernel_rfl) (by kernel_rfl) (fun _ _ _ h => h) (Or.inr ⟨by rfl, rfl⟩) (by assumption) ?_
   try simp only [Act.put, List.getElem_toArray, List.getElem_cons_zero, List.getElem_cons_succ, List.setIfInBounds_toArray, List.set_cons_zero, List.set_cons_succ]
   refine wpAnyH_take (i := 29) (oi := { dst := some 152, op := Op.load 35 (Operand.tmp 5), type := 35, pos := "law.go:127", after := #[{ on := 27, ground := Ground.guard }], guard := some (27, false) }) (v := undef) rfl (by kernel_rfl) (by kernel_rfl) (by kernel_rfl) (fun _ _ _ h => h) (Or.inr ⟨by rfl, rfl⟩) (by assumption) ?_
   try simp only [Act.put, List.getElem_toArray, List.getElem_cons_zero, List.getElem_cons_succ, List.setIfInBounds_toArray, List.set_cons_zero, List.set_cons_succ]
   refine wpAnyH_take (i := 30) (oi := { dst := some 153, op := Op.load 35 (Operand.tmp 7), type := 35, pos := "law.go:127", after := #[{ on := 27, ground := Ground.guard }], guard := some (27, false) }) (v := undef) rfl (by kernel_rfl) (by kernel_rfl) (by kernel_rfl) (fun _ _ _ h => h) (Or.inr ⟨by rfl, rfl⟩) (by assumption) ?_
   try simp only [Act.put, List.getElem_toArray, List.getElem_cons_zero, List.getElem_cons_succ, List.setIfInBounds_toArray, List.set_cons_zero, List.set_cons_succ]
   refine wpAnyH_take (i := 31) (oi := { dst := some 154, op := Op.call { callee := Callee.value (Operand.func 52), args := #[Operand.tmp 152, Operand.tmp 153], argTypes := #[35, 35] }, type := 35, pos := "law.go:127", after := #[{ on := 29, ground := Ground.data }, { on := 30, ground := Ground.data }, { on := 27, ground := Ground.chain }, { on := 27, ground := Ground.guard }], guard := some (27, false) }) (v := undef) rfl (by kernel_rfl) (by kernel_rfl) (by kernel_rfl) (fun _ _ _ h => h) (Or.inr ⟨by rfl, rfl⟩) (by assumption) ?_
   try simp only [Act.put, List.getElem_toArray, List.getElem_cons_zero, List.getElem_cons_succ, List.setIfInBounds_toArray, List.set_cons_zero, List.set_cons_succ]
   refine wpAnyH_take (i := 32) (oi := { dst := some 155, op := Op.load 35 (Operand.tmp 14), type := 35, pos := "law.go:127", after := #[{ on := 27, ground := Ground.guard }], guard := some (27, false) }) (v := undef) rfl (by kernel_rfl) (by kernel_rfl) (by kernel_rfl) (fun _ _ _ h => h) (Or.inr ⟨by rfl, rfl⟩) (by assumption) ?_
   try simp only [Act.put, List.getElem_toArray, List.getElem_cons_zero, List.getElem_cons_succ, List.setIfInBounds_toArray, List.set_cons_zero, List.set_cons_succ]
   refine wpAnyH_take (i := 33) (oi := { dst := some 156, op := Op.call { callee := Callee.value (Operand.func 42), args := #[Operand.tmp 154, Operand.tmp 155], argTypes := #[35, 35] }, type := 3, pos := "law.go:127", after := #[{ on := 31, ground := Ground.data }, { on := 32, ground := Ground.data }, { on := 31, ground := Ground.chain }, { on := 27, ground := Ground.guard }], guard := some (27, false) }) (v := undef) rfl (by kernel_rfl) (by kernel_rfl) (by kernel_rfl) (fun _ _ _ h => h) (Or.inr ⟨by rfl, rfl⟩) (by assumption) ?_
   try simp only [Act.put, List.getElem_toArray, List.getElem_cons_zero, List.getElem_cons_succ, List.setIfInBounds_toArray, List.set_cons_zero, List.set_cons_succ]
   refine wpAnyH_take (i := 34) (oi := { dst := some 157, op := Op.binOp BinOp.eql 3 (Operand.tmp 151) (Operand.tmp 156) 3, type := 4, pos := "law.go:127", after := #[{ on := 28, ground := Ground.data }, { on := 33, ground := Ground.data }, { on := 27, ground := Ground.guard }], guard := some (27, false) }) (v := undef) rfl (by kernel_rfl) (by kernel_rfl) (by kernel_rfl) (fun _ _ _ h => h) (Or.inr ⟨by rfl, rfl⟩) (by assumption) ?_
   try simp only [Act.put, List.getElem_toArray, List.getElem_cons_zero, List.getElem_cons_succ, List.setIfInBounds_toArray, List.set_cons_zero, List.set_cons_succ]
   refine tk 35 ?_
   refine tk 36 ?_
   refine tk 37 ?_
   refine wpAnyH_done (by kernel_rfl) ?_ _
   clear hHeld
   go_wp2_with fail
   go_meet
   exact ⟨rfl, HBy37.out⟩
  ·refine rgh HC fun hHeld => ?_
   refine tk 0 ?_
   refine tk 1 ?_
   refine tk 2 ?_
   refine cl 3 fun K hK => ?_
   go_simp
   go_at_call 50
   refine (QSub_q (Ja0.out.below (bt HW.out (bw (b0 _)))) (Ja1.out.below (bt HW.out (bw (b0 _)))) (by decide) (by decide)).mono ?_
   rintro e y38 ⟨s1, rfl, hs1, hb⟩
   have HBy38 := Hi (bt (bw (b0 w30)) hb)
   have Js1 := Hi hs1
   clear hb hs1 hHeld
   refine rk hK (HC.out _ HBy38.out) fun hHeld => ?_
   clear hK K
   refine cl 4 fun K hK => ?_
   go_simp
   go_at_call 40
   refine (QSign_v Js1.out ((cmpQ_sub _ _).trans HDV.out.symm) (by decide)).mono ?_
   rintro e y39 ⟨rfl, hb⟩
   replace Js1 := Hi (Js1.out.below hb)
   have HBy39 := Hi (bt HBy38.out hb)
   clear hb  hHeld
   refine rk hK (HC.out _ HBy39.out) fun hHeld => ?_
   clear hK K
   refine tk 5 ?_
   refine tk 6 ?_
   refine tk 7 ?_
   refine tk 8 ?_
   refine tk 9 ?_
   refine cl 10 fun K hK => ?_
   go_simp
   go_at_call 42
   refine (QCmp_v (Ja1.out.below (bt HW.out HBy39.out)) (Ja0.out.below (bt HW.out HBy39.out)) (HCV.out.symm) (by decide) (by decide)).mono ?_
   rintro e y40 ⟨rfl, hb⟩
   replace Js1 := Hi (Js1.out.below hb)
   have HBy40 := Hi (bt HBy39.out hb)
   clear hb  hHeld
   refine rk hK (HC.out _ HBy40.out) fun hHeld => ?_
   clear hK K
   refine tk 11 ?_
   refine tk 12 ?_
   refine tk 13 ?_
   refine tk 14 ?_
   refine tk 15 ?_
   refine tk 16 ?_
   refine tk 17 ?_
   refine tk 19 ?_
   refine cl 18 fun K hK => ?_
   go_simp
   go_at_call 48
   refine (QAdd_q (Ja0.out.below (bt HW.out HBy40.out)) (Ja2.out.below (bt HW.out HBy40.out)) (by decide) (by decide)).mono ?_
   rintro e y41 ⟨s2, rfl, hs2, hb⟩
   replace Js1 := Hi (Js1.out.below hb)
   have HBy41 := Hi (bt HBy40.out hb)
   have Js2 := Hi hs2
   clear hb hs2 hHeld
   refine rk hK (HC.out _ HBy41.out) fun hHeld => ?_
   clear hK K
   refine cl 20 fun K hK => ?_
   go_simp
   go_at_call 42
   refine (QCmp_v Js2.out (Jbc.out.below HBy41.out) ((cmpQ_add _ _ _).trans HDV.out.symm) (by decide) (by decide)).mono ?_
   rintro e y42 ⟨rfl, hb⟩
   replace Js1 := Hi (Js1.out.below hb)
   replace Js2 := Hi (Js2.out.below hb)
   have HBy42 := Hi (bt HBy41.out hb)
   clear hb  hHeld
   refine rk hK (HC.out _ HBy42.out) fun hHeld => ?_
   clear hK K
   refine tk 21 ?_
   refine tk 22 ?_
   refine tk 23 ?_
   refine tk 24 ?_
   refine cl 25 fun K hK => ?_
   go_simp
   go_at_call 40
   refine (QSign_v (Ja2.out.below (bt HW.out HBy42.out)) (HSV.out.symm) (by decide)).mono ?_
   rintro e y43 ⟨rfl, hb⟩
   replace Js1 := Hi (Js1.out.below hb)
   replace Js2 := Hi (Js2.out.below hb)
   have HBy43 := Hi (bt HBy42.out hb)
   clear hb  hHeld
   refine rk hK (HC.out _ HBy43.out) fun hHeld => ?_
   clear hK K
   refine tk 26 ?_
   refine tk 27 ?_
   refine tk 28 ?_
   refine tk 29 ?_
   refine tk 30 ?_
   refine tk 32 ?_
   refine cl 31 fun K hK => ?_
   go_simp
   go_at_call 52
   refine (QMul_q (Ja0.out.below (bt HW.out HBy43.out)) (Ja2.out.below (bt HW.out HBy43.out)) (by decide) (by decide)).mono ?_
   rintro e y44 ⟨s3, rfl, hs3, hb⟩
   replace Js1 := Hi (Js1.out.below hb)
   replace Js2 := Hi (Js2.out.below hb)
   have HBy44 := Hi (bt HBy43.out hb)
   have Js3 := Hi hs3
   clear hb hs3 hHeld
   refine rk hK (HC.out _ HBy44.out) fun hHeld => ?_
   clear hK K
   refine cl 33 fun K hK => ?_
   go_simp
   go_at_call 42
   refine (QCmp_v Js3.out (Jq.out.below HBy44.out) ((cmpQ_mul _ _ _ (cmpQ_pos.1 (by rw [← HSV.out]; omega))).trans HDV.out.symm) (by decide) (by decide)).mono ?_
   rintro e y45 ⟨rfl, hb⟩
   replace Js1 := Hi (Js1.out.below hb)
   replace Js2 := Hi (Js2.out.below hb)
   replace Js3 := Hi (Js3.out.below hb)
   have HBy45 := Hi (bt HBy44.out hb)
   clear hb  hHeld
   refine rk hK (HC.out _ HBy45.out) fun hHeld => ?_
   clear hK K
   refine tk 34 ?_
   refine tk 35 ?_
   refine tk 36 ?_
   refine tk 37 ?_
   refine wpAnyH_done (by kernel_rfl) ?_ _
   clear hHeld
   go_wp2_with fail
   go_meet
   exact ⟨rfl, HBy45.out⟩
 case rest =>
 obtain ⟨rfl, hb⟩ := hcut
 obtain ⟨w31, hwn⟩ : ∃ v, v = wc := ⟨_, rfl⟩
 rw [← hwn] at hb ⊢
 clear hwn wc
 replace x0 := x0.below hb
 replace x1 := x1.below hb
 replace x2 := x2.below hb
 replace xab := xab.below hb
 replace xbc := xbc.below hb
 replace xp := xp.below hb
 replace xq := xq.below hb
 replace Jab := Hi (Jab.out.below hb)
 replace Jbc := Hi (Jbc.out.below hb)
 replace Jp := Hi (Jp.out.below hb)
 replace Jq := Hi (Jq.out.below hb)
 have hw8_ := bt hw7_ hb
 clear hb hw7_
 as_aux_lemma =>
 go_wp2_with fail
 go_cut [19, 20] (fun xx ee wx => Laid1 w31 18 ((q0 + q1) / Rat.divInt 2 1) xx ee wx)
 case first =>
  as_aux_lemma =>
  have HC := xab.hc
  have HW := Hi hw8_
  have Gx0 := Hi x0
  have Gx1 := Hi x1
  have Gx2 := Hi x2
  have Gxab := Hi xab
  have Gxbc := Hi xbc
  have Gxp := Hi xp
  have Gxq := Hi xq
  clear x0 x1 x2 xab xbc xp xq hw8_
  refine rgh HC fun hHeld => ?_
  obtain ⟨wd, hwd⟩ : ∃ W, W = w31.drew := ⟨_, rfl⟩
  have HBd : Hid (Below w31.heap.size w31 wd) := Hi (by rw [hwd]; exact bw (b0 _))
  rw [← hwd] at hHeld ⊢
  clear hwd
  refine tk 0 ?_
  refine cl2 1 6 (fun K hK => ?_) (fun K hK => ?_)
  ·go_simp
   go_at_call 63
   refine (of_q _ 2 1 (by decide) (by decide) (by decide)).mono ?_
   rintro e u1 ⟨t1, rfl, hn, hb⟩
   have HB1 := Hi (bt HBd.out hb)
   have F1t1 := Hi hn
   clear hb hn hHeld
   refine rk hK (HC.out _ HB1.out) fun hHeld => ?_
   clear hK K
   refine cl2 2 6 (fun K hK => ?_) (fun K hK => ?_)
   ·go_simp
    go_at_call 38
    refine (QDiv_q (Jab.out.below HB1.out) F1t1.out (by decide) (by decide) (by rw [q_two]; decide)).mono ?_
    rintro e u2 ⟨mean, rfl, hn, hb⟩
    have HB2 := Hi (bt HB1.out hb)
    have F2t1 := Hi (F1t1.out.below hb)
    have F2mean := Hi hn
    clear hb hn hHeld
    refine rk hK (HC.out _ HB2.out) fun hHeld => ?_
    clear hK K
    refine tk 3 ?_
    refine tk 4 ?_
    refine tk 5 ?_
    refine cl 6 fun K hK => ?_
    go_simp
    obtain ⟨u3, hu⟩ : ∃ W, W = u2.alloc (.cells #[.bool false, .slice none 0 0, .bool false, .slice none 0 0] 35) := ⟨_, rfl⟩
    have X3 : Box4 u3 u2.heap.size (.bool false) (.slice none 0 0) (.bool false) (.slice none 0 0) := by rw [hu]; exact Box4.new _ _ _ _ _
    have hb : Below u2.heap.size u2 u3 := by rw [hu]; exact ba (b0 _) _
    obtain ⟨p3, hp⟩ : ∃ p, p = u2.heap.size := ⟨_, rfl⟩
    have L3 := Hi (show w31.heap.size ≤ p3 by rw [hp]; exact (HB2.out).size)
    rw [← hu, ← hp]
    rw [← hp] at X3
    clear hu hp
    have HB3 := Hi (bt HB2.out hb)
    have F3t1 := Hi (F2t1.out.below hb)
    have F3mean := Hi (F2mean.out.below hb)
    clear hb hHeld
    refine rk hK (HC.out _ HB3.out) fun hHeld => ?_
    clear hK K
    refine cl 7 fun K hK => ?_
    obtain ⟨f0, f1, f2, f3⟩ := X3.fr
    obtain ⟨r0, r1, r2, r3⟩ := X3.cs
    go_simp
    clear f0 f1 f2 f3 r0 r1 r2 r3
    have HB4 := Hi (b4 HB3.out L3.out (.bool mean.n) (.slice mean.A mean.l.length mean.c) (.bool mean.m) (.slice mean.B mean.k.length mean.d))
    have F4 := Hi (F3mean.out.four X3 (.bool mean.n) (.slice mean.A mean.l.length mean.c) (.bool mean.m) (.slice mean.B mean.k.length mean.d))
    have X4 := X3.stored (.bool mean.n) (.slice mean.A mean.l.length mean.c) (.bool mean.m) (.slice mean.B mean.k.length mean.d)
    clear hHeld
    refine rk hK (HC.out _ HB4.out) fun hHeld => ?_
    clear hK K
    refine tk 8 ?_
    refine wpAnyH_done (by kernel_rfl) ?_ _
    clear hHeld
    have HZ := Hi (show Laid1 w31 18 ((q0 + q1) / Rat.divInt 2 1) (.pointer (some ⟨p3, 0, none⟩)) (.int .i64 0) _ from ⟨mean, p3, ⟨rfl, L3.out, X4, F4.out⟩, rfl, HB4.out⟩)
    go_wp2_with fail
    try simp only [Act.put, List.setIfInBounds_toArray, List.set_cons_zero, List.set_cons_succ]
    go_meet
    exact HZ.out
   ·go_simp
    obtain ⟨u5, hu⟩ : ∃ W, W = u1.alloc (.cells #[.bool false, .slice none 0 0, .bool false, .slice none 0 0] 35) := ⟨_, rfl⟩
    have X5 : Box4 u5 u1.heap.size (.bool false) (.slice none 0 0) (.bool false) (.slice none 0 0) := by rw [hu]; exact Box4.new _ _ _ _ _
    have hb : Below u1.heap.size u1 u5 := by rw [hu]; exact ba (b0 _) _
    obtain ⟨p5, hp⟩ : ∃ p, p = u1.heap.size := ⟨_, rfl⟩
    have L5 := Hi (show w31.heap.size ≤ p5 by rw [hp]; exact (HB1.out).size)
    rw [← hu, ← hp]
    rw [← hp] at X5
    clear hu hp
    have HB5 := Hi (bt HB1.out hb)
    have F5t1 := Hi (F1t1.out.below hb)
    clear hb hHeld
    refine rk hK (HC.out _ HB5.out) fun hHeld => ?_
    clear hK K
    refine cl 2 fun K hK => ?_
    go_simp
    go_at_call 38
    refine (QDiv_q (Jab.out.below HB5.out) F5t1.out (by decide) (by decide) (by rw [q_two]; decide)).mono ?_
    rintro e u6 ⟨mean, rfl, hn, hb⟩
    have HB6 := Hi (bt HB5.out hb)
    have F6t1 := Hi (F5t1.out.below hb)
    have F6mean := Hi hn
    have X6 := X5.below hb
    clear hb hn hHeld
    refine rk hK (HC.out _ HB6.out) fun hHeld => ?_
    clear hK K
    refine tk 3 ?_
    refine tk 4 ?_
    refine tk 5 ?_
    refine cl 7 fun K hK => ?_
    obtain ⟨f0, f1, f2, f3⟩ := X6.fr
    obtain ⟨r0, r1, r2, r3⟩ := X6.cs
    go_simp
    clear f0 f1 f2 f3 r0 r1 r2 r3
    have HB7 := Hi (b4 HB6.out L5.out (.bool mean.n) (.slice mean.A mean.l.length mean.c) (.bool mean.m) (.slice mean.B mean.k.length mean.d))
    have F7 := Hi (F6mean.out.four X6 (.bool mean.n) (.slice mean.A mean.l.length mean.c) (.bool mean.m) (.slice mean.B mean.k.length mean.d))
    have X7 := X6.stored (.bool mean.n) (.slice mean.A mean.l.length mean.c) (.bool mean.m) (.slice mean.B mean.k.length mean.d)
    clear hHeld
    refine rk hK (HC.out _ HB7.out) fun hHeld => ?_
    clear hK K
    refine tk 8 ?_
    refine wpAnyH_done (by kernel_rfl) ?_ _
    clear hHeld
    have HZ := Hi (show Laid1 w31 18 ((q0 + q1) / Rat.divInt 2 1) (.pointer (some ⟨p5, 0, none⟩)) (.int .i64 0) _ from ⟨mean, p5, ⟨rfl, L5.out, X7, F7.out⟩, rfl, HB7.out⟩)
    go_wp2_with fail
    try simp only [Act.put, List.setIfInBounds_toArray, List.set_cons_zero, List.set_cons_succ]
    go_meet
    exact HZ.out
  ·go_simp
   obtain ⟨u8, hu⟩ : ∃ W, W = wd.alloc (.cells #[.bool false, .slice none 0 0, .bool false, .slice none 0 0] 35) := ⟨_, rfl⟩
   have X8 : Box4 u8 wd.heap.size (.bool false) (.slice none 0 0) (.bool false) (.slice none 0 0) := by rw [hu]; exact Box4.new _ _ _ _ _
   have hb : Below wd.heap.size wd u8 := by rw [hu]; exact ba (b0 _) _
   obtain ⟨p8, hp⟩ : ∃ p, p = wd.heap.size := ⟨_, rfl⟩
   have L8 := Hi (show w31.heap.size ≤ p8 by rw [hp]; exact (HBd.out).size)
   rw [← hu, ← hp]
   rw [← hp] at X8
   clear hu hp
   have HB8 := Hi (bt HBd.out hb)
   clear hb hHeld
   refine rk hK (HC.out _ HB8.out) fun hHeld => ?_
   clear hK K
   refine cl 1 fun K hK => ?_
   go_simp
   go_at_call 63
   refine (of_q _ 2 1 (by decide) (by decide) (by decide)).mono ?_
   rintro e u9 ⟨t1, rfl, hn, hb⟩
   have HB9 := Hi (bt HB8.out hb)
   have F9t1 := Hi hn
   have X9 := X8.below hb
   clear hb hn hHeld
   refine rk hK (HC.out _ HB9.out) fun hHeld => ?_
   clear hK K
   refine cl 2 fun K hK => ?_
   go_simp
   go_at_call 38
   refine (QDiv_q (Jab.out.below HB9.out) F9t1.out (by decide) (by decide) (by rw [q_two]; decide)).mono ?_
   rintro e u10 ⟨mean, rfl, hn, hb⟩
   have HB10 := Hi (bt HB9.out hb)
   have F10t1 := Hi (F9t1.out.below hb)
   have F10mean := Hi hn
   have X10 := X9.below hb
   clear hb hn hHeld
   refine rk hK (HC.out _ HB10.out) fun hHeld => ?_
   clear hK K
   refine tk 3 ?_
   refine tk 4 ?_
   refine tk 5 ?_
   refine cl 7 fun K hK => ?_
   obtain ⟨f0, f1, f2, f3⟩ := X10.fr
   obtain ⟨r0, r1, r2, r3⟩ := X10.cs
   go_simp
   clear f0 f1 f2 f3 r0 r1 r2 r3
   have HB11 := Hi (b4 HB10.out L8.out (.bool mean.n) (.slice mean.A mean.l.length mean.c) (.bool mean.m) (.slice mean.B mean.k.length mean.d))
   have F11 := Hi (F10mean.out.four X10 (.bool mean.n) (.slice mean.A mean.l.length mean.c) (.bool mean.m) (.slice mean.B mean.k.length mean.d))
   have X11 := X10.stored (.bool mean.n) (.slice mean.A mean.l.length mean.c) (.bool mean.m) (.slice mean.B mean.k.length mean.d)
   clear hHeld
   refine rk hK (HC.out _ HB11.out) fun hHeld => ?_
   clear hK K
   refine tk 8 ?_
   refine wpAnyH_done (by kernel_rfl) ?_ _
   clear hHeld
   have HZ := Hi (show Laid1 w31 18 ((q0 + q1) / Rat.divInt 2 1) (.pointer (some ⟨p8, 0, none⟩)) (.int .i64 0) _ from ⟨mean, p8, ⟨rfl, L8.out, X11, F11.out⟩, rfl, HB11.out⟩)
   go_wp2_with fail
   try simp only [Act.put, List.setIfInBounds_toArray, List.set_cons_zero, List.set_cons_succ]
   go_meet
   exact HZ.out
 case rest =>
 obtain ⟨mean, xmp, ⟨rfl, hg, xm, hmean⟩, rfl, hb⟩ := hcut
 obtain ⟨w46, hwn⟩ : ∃ v, v = wc := ⟨_, rfl⟩
 rw [← hwn] at hb xm hmean ⊢
 clear hwn wc
 have xmg : w.heap.size ≤ xmp := by have := hw8_.size; omega
 have Nx0_xm : Hid (w.heap.size < xmp) := Hi (by have := x0.lt; omega)
 have Nx1_xm : Hid (w.heap.size + 1 < xmp) := Hi (by have := x1.lt; omega)
 have Nx2_xm : Hid (w.heap.size + 1 + 1 < xmp) := Hi (by have := x2.lt; omega)
 have Nxab_xm : Hid (xabp < xmp) := Hi (by have := xab.lt; omega)
 have Nxbc_xm : Hid (xbcp < xmp) := Hi (by have := xbc.lt; omega)
 have Nxp_xm : Hid (xpp < xmp) := Hi (by have := xp.lt; omega)
 have Nxq_xm : Hid (xqp < xmp) := Hi (by have := xq.lt; omega)
 clear hg
 have Jmean := Hi hmean
 clear hmean
 replace x0 := x0.below hb
 replace x1 := x1.below hb
 replace x2 := x2.below hb
 replace xab := xab.below hb
 replace xbc := xbc.below hb
 replace xp := xp.below hb
 replace xq := xq.below hb
 replace Jab := Hi (Jab.out.below hb)
 replace Jbc := Hi (Jbc.out.below hb)
 replace Jp := Hi (Jp.out.below hb)
 replace Jq := Hi (Jq.out.below hb)
 have hw9_ := bt hw8_ hb
 clear hb hw8_
 as_aux_lemma =>
 obtain ⟨C00, C01, C02, C03⟩ := x0.cs
 obtain ⟨C10, C11, C12, C13⟩ := x1.cs
 obtain ⟨Cm0, Cm1, Cm2, Cm3⟩ := xm.cs
 go_wp2_with fail
 refine (QCmp_v (z := dv) (Ja0.out.below hw9_) Jmean.out (by rw [q_two]; exact (cmpQ_mean1 _ _).trans HDV.out.symm) (by decide) (by decide)).mono ?_
 rintro e w47 ⟨rfl, hb⟩
 clear C00 C01 C02 C03 C10 C11 C12 C13 Cm0 Cm1 Cm2 Cm3
 replace x0 := x0.below hb
 replace x1 := x1.below hb
 replace x2 := x2.below hb
 replace xab := xab.below hb
 replace xbc := xbc.below hb
 replace xp := xp.below hb
 replace xq := xq.below hb
 replace xm := xm.below hb
 replace Jab := Hi (Jab.out.below hb)
 replace Jbc := Hi (Jbc.out.below hb)
 replace Jp := Hi (Jp.out.below hb)
 replace Jq := Hi (Jq.out.below hb)
 replace Jmean := Hi (Jmean.out.below hb)
 have hw10_ := bt hw9_ hb
 clear hb hw9_
 obtain ⟨C00, C01, C02, C03⟩ := x0.cs
 obtain ⟨C10, C11, C12, C13⟩ := x1.cs
 obtain ⟨Cm0, Cm1, Cm2, Cm3⟩ := xm.cs
 go_wp2_with fail
 refine (QCmp_v (z := dv) Jmean.out (Ja1.out.below hw10_) (by rw [q_two]; exact (cmpQ_mean2 _ _).trans HDV.out.symm) (by decide) (by decide)).mono ?_
 rintro e w48 ⟨rfl, hb⟩
 clear C00 C01 C02 C03 C10 C11 C12 C13 Cm0 Cm1 Cm2 Cm3
 replace x0 := x0.below hb
 replace x1 := x1.below hb
 replace x2 := x2.below hb
 replace xab := xab.below hb
 replace xbc := xbc.below hb
 replace xp := xp.below hb
 replace xq := xq.below hb
 replace xm := xm.below hb
 replace Jab := Hi (Jab.out.below hb)
 replace Jbc := Hi (Jbc.out.below hb)
 replace Jp := Hi (Jp.out.below hb)
 replace Jq := Hi (Jq.out.below hb)
 replace Jmean := Hi (Jmean.out.below hb)
 have hw11_ := bt hw10_ hb
 clear hb hw10_
 obtain ⟨C00, C01, C02, C03⟩ := x0.cs
 obtain ⟨C10, C11, C12, C13⟩ := x1.cs
 obtain ⟨Cm0, Cm1, Cm2, Cm3⟩ := xm.cs
 go_wp2_with fail
 refine (QFloor_q (Ja0.out.below hw11_) (by decide)).mono ?_
 rintro e w49 ⟨zf, rfl, hzf, hb⟩
 clear C00 C01 C02 C03 C10 C11 C12 C13 Cm0 Cm1 Cm2 Cm3
 replace x0 := x0.below hb
 replace x1 := x1.below hb
 replace x2 := x2.below hb
 replace xab := xab.below hb
 replace xbc := xbc.below hb
 replace xp := xp.below hb
 replace xq := xq.below hb
 replace xm := xm.below hb
 replace Jab := Hi (Jab.out.below hb)
 replace Jbc := Hi (Jbc.out.below hb)
 replace Jp := Hi (Jp.out.below hb)
 replace Jq := Hi (Jq.out.below hb)
 replace Jmean := Hi (Jmean.out.below hb)
 have hw12_ := bt hw11_ hb
 clear hb hw11_
 have Jzf := Hi hzf
 clear hzf
 obtain ⟨C00, C01, C02, C03⟩ := x0.cs
 go_wp2_with fail
 refine (QWhole_q Jzf.out (by decide)).mono ?_
 rintro e w50 ⟨fl, rfl, hfl, hb⟩
 clear C00 C01 C02 C03
 replace x0 := x0.below hb
 replace x1 := x1.below hb
 replace x2 := x2.below hb
 replace xab := xab.below hb
 replace xbc := xbc.below hb
 replace xp := xp.below hb
 replace xq := xq.below hb
 replace xm := xm.below hb
 replace Jab := Hi (Jab.out.below hb)
 replace Jbc := Hi (Jbc.out.below hb)
 replace Jp := Hi (Jp.out.below hb)
 replace Jq := Hi (Jq.out.below hb)
 replace Jmean := Hi (Jmean.out.below hb)
 replace Jzf := Hi (Jzf.out.below hb)
 have hw13_ := bt hw12_ hb
 clear hb hw12_
 have Jfl := Hi hfl
 clear hfl
 have x0a := x0.alloc (.cells #[.bool fl.n, .slice fl.A fl.l.length fl.c, .bool fl.m, .slice fl.B fl.k.length fl.d] 35)
 obtain ⟨C00, C01, C02, C03⟩ := x0a.cs
 have x1a := x1.alloc (.cells #[.bool fl.n, .slice fl.A fl.l.length fl.c, .bool fl.m, .slice fl.B fl.k.length fl.d] 35)
 obtain ⟨C10, C11, C12, C13⟩ := x1a.cs
 have x2a := x2.alloc (.cells #[.bool fl.n, .slice fl.A fl.l.length fl.c, .bool fl.m, .slice fl.B fl.k.length fl.d] 35)
 obtain ⟨C20, C21, C22, C23⟩ := x2a.cs
 have xaba := xab.alloc (.cells #[.bool fl.n, .slice fl.A fl.l.length fl.c, .bool fl.m, .slice fl.B fl.k.length fl.d] 35)
 obtain ⟨c_xab_0, c_xab_1, c_xab_2, c_xab_3⟩ := xaba.cs
 have xbca := xbc.alloc (.cells #[.bool fl.n, .slice fl.A fl.l.length fl.c, .bool fl.m, .slice fl.B fl.k.length fl.d] 35)
 obtain ⟨c_xbc_0, c_xbc_1, c_xbc_2, c_xbc_3⟩ := xbca.cs
 have xpa := xp.alloc (.cells #[.bool fl.n, .slice fl.A fl.l.length fl.c, .bool fl.m, .slice fl.B fl.k.length fl.d] 35)
 obtain ⟨Cp0, Cp1, Cp2, Cp3⟩ := xpa.cs
 have xqa := xq.alloc (.cells #[.bool fl.n, .slice fl.A fl.l.length fl.c, .bool fl.m, .slice fl.B fl.k.length fl.d] 35)
 obtain ⟨Cq0, Cq1, Cq2, Cq3⟩ := xqa.cs
 have xma := xm.alloc (.cells #[.bool fl.n, .slice fl.A fl.l.length fl.c, .bool fl.m, .slice fl.B fl.k.length fl.d] 35)
 obtain ⟨Cm0, Cm1, Cm2, Cm3⟩ := xma.cs
 go_wp2_with fail
 clear C00 C01 C02 C03 x0a C10 C11 C12 C13 x1a C20 C21 C22 C23 x2a c_xab_0 c_xab_1 c_xab_2 c_xab_3 xaba c_xbc_0 c_xbc_1 c_xbc_2 c_xbc_3 xbca Cp0 Cp1 Cp2 Cp3 xpa Cq0 Cq1 Cq2 Cq3 xqa Cm0 Cm1 Cm2 Cm3 xma
 obtain ⟨w51, hw, xf, hb⟩ := nb4 w50 fl.n fl.A fl.c fl.l fl.m fl.B fl.d fl.k
 obtain ⟨xfp, hxfp⟩ : ∃ p, p = w50.heap.size := ⟨_, rfl⟩
 rw [← hxfp] at xf ⊢
 have xfg : w.heap.size ≤ xfp := by have := hw13_.size; omega
 rw [← hw]
 clear hw
 have Nx0_xf : Hid (w.heap.size < xfp) := Hi (by have := x0.lt; omega)
 have Nx1_xf : Hid (w.heap.size + 1 < xfp) := Hi (by have := x1.lt; omega)
 have Nx2_xf : Hid (w.heap.size + 1 + 1 < xfp) := Hi (by have := x2.lt; omega)
 have Nxab_xf : Hid (xabp < xfp) := Hi (by have := xab.lt; omega)
 have Nxbc_xf : Hid (xbcp < xfp) := Hi (by have := xbc.lt; omega)
 have Nxp_xf : Hid (xpp < xfp) := Hi (by have := xp.lt; omega)
 have Nxq_xf : Hid (xqp < xfp) := Hi (by have := xq.lt; omega)
 have Nxm_xf : Hid (xmp < xfp) := Hi (by have := xm.lt; omega)
 clear hxfp
 replace x0 := x0.below hb
 replace x1 := x1.below hb
 replace x2 := x2.below hb
 replace xab := xab.below hb
 replace xbc := xbc.below hb
 replace xp := xp.below hb
 replace xq := xq.below hb
 replace xm := xm.below hb
 replace Jab := Hi (Jab.out.below hb)
 replace Jbc := Hi (Jbc.out.below hb)
 replace Jp := Hi (Jp.out.below hb)
 replace Jq := Hi (Jq.out.below hb)
 replace Jmean := Hi (Jmean.out.below hb)
 replace Jzf := Hi (Jzf.out.below hb)
 replace Jfl := Hi (Jfl.out.below hb)
 have hw14_ := bt hw13_ hb
 clear hb hw13_
 obtain ⟨vf, hvf⟩ : ∃ v, v = cmpQ (q0.floor : Rat) q0 := ⟨_, rfl⟩
 have hvl : ¬ 0 < vf := by rw [hvf]; have := cmpQ_le (Rat.floor_le q0); omega
 have HVF := Hi hvf
 clear hvf
 go_cut [211] (fun v wx => v = .bool false ∧ Below w51.heap.size w51 wx)
 case first =>
  as_aux_lemma =>
  have HC := (hj x0.hc xf.hc)
  have HW := Hi hw14_
  have Gx0 := Hi x0
  have Gx1 := Hi x1
  have Gx2 := Hi x2
  have Gxab := Hi xab
  have Gxbc := Hi xbc
  have Gxp := Hi xp
  have Gxq := Hi xq
  have Gxm := Hi xm
  have Gxf := Hi xf
  clear x0 x1 x2 xab xbc xp xq xm xf hw14_
  refine rgh HC fun hHeld => ?_
  refine tk 0 ?_
  refine tk 1 ?_
  refine tk 2 ?_
  refine tk 3 ?_
  refine tk 4 ?_
  refine tk 5 ?_
  refine tk 6 ?_
  refine tk 7 ?_
  refine tk 8 ?_
  refine tk 9 ?_
  refine tk 10 ?_
  refine tk 11 ?_
  refine tk 12 ?_
  refine cl 13 fun K hK => ?_
  go_simp
  go_at_call 42
  refine (QCmp_v (Jfl.out.below (bw (b0 _))) (Ja0.out.below (bt HW.out (bw (b0 _)))) (HVF.out.symm) (by decide) (by decide)).mono ?_
  rintro e y53 ⟨rfl, hb⟩
  have HBy53 := Hi (bt (bw (b0 w51)) hb)
  clear hb  hHeld
  refine rk hK (HC.out _ HBy53.out) fun hHeld => ?_
  clear hK K
  refine tk 14 ?_
  refine tk 15 ?_
  refine tk 16 ?_
  refine tk 17 ?_
  refine tk 20 ?_
  refine cl 18 fun K hK => ?_
  go_simp
  go_at_call 63
  refine (of_q _ 1 1 (by decide) (by decide) (by decide)).mono ?_
  rintro e y54 ⟨s5, rfl, hs5, hb⟩
  have HBy54 := Hi (bt HBy53.out hb)
  have Js5 := Hi hs5
  clear hb hs5 hHeld
  refine rk hK (HC.out _ HBy54.out) fun hHeld => ?_
  clear hK K
  refine cl 19 fun K hK => ?_
  go_simp
  go_at_call 48
  refine (QAdd_q (Jfl.out.below HBy54.out) Js5.out (by decide) (by decide)).mono ?_
  rintro e y55 ⟨s6, rfl, hs6, hb⟩
  replace Js5 := Hi (Js5.out.below hb)
  have HBy55 := Hi (bt HBy54.out hb)
  have Js6 := Hi hs6
  clear hb hs6 hHeld
  refine rk hK (HC.out _ HBy55.out) fun hHeld => ?_
  clear hK K
  refine cl 21 fun K hK => ?_
  go_simp
  go_at_call 42
  refine (QCmp_v Js6.out (Ja0.out.below (bt HW.out HBy55.out)) (cmpQ_gt (floor_one q0)) (by decide) (by decide)).mono ?_
  rintro e y56 ⟨rfl, hb⟩
  replace Js5 := Hi (Js5.out.below hb)
  replace Js6 := Hi (Js6.out.below hb)
  have HBy56 := Hi (bt HBy55.out hb)
  clear hb  hHeld
  refine rk hK (HC.out _ HBy56.out) fun hHeld => ?_
  clear hK K
  refine tk 22 ?_
  refine tk 23 ?_
  refine wpAnyH_done (by kernel_rfl) ?_ _
  clear hHeld
  go_wp2_with fail
  go_meet
  exact ⟨rfl, HBy56.out⟩
 case rest =>
 obtain ⟨rfl, hb⟩ := hcut
 obtain ⟨w52, hwn⟩ : ∃ v, v = wc := ⟨_, rfl⟩
 rw [← hwn] at hb ⊢
 clear hwn wc
 replace x0 := x0.below hb
 replace x1 := x1.below hb
 replace x2 := x2.below hb
 replace xab := xab.below hb
 replace xbc := xbc.below hb
 replace xp := xp.below hb
 replace xq := xq.below hb
 replace xm := xm.below hb
 replace xf := xf.below hb
 replace Jab := Hi (Jab.out.below hb)
 replace Jbc := Hi (Jbc.out.below hb)
 replace Jp := Hi (Jp.out.below hb)
 replace Jq := Hi (Jq.out.below hb)
 replace Jmean := Hi (Jmean.out.below hb)
 replace Jzf := Hi (Jzf.out.below hb)
 replace Jfl := Hi (Jfl.out.below hb)
 have hw15_ := bt hw14_ hb
 clear hb hw14_
 as_aux_lemma =>
 obtain ⟨C00, C01, C02, C03⟩ := x0.cs
 obtain ⟨C10, C11, C12, C13⟩ := x1.cs
 obtain ⟨Cp0, Cp1, Cp2, Cp3⟩ := xp.cs
 go_wp2_with fail
 obtain ⟨bv, hbv⟩ : ∃ v, v = cmpQ q1 0 := ⟨_, rfl⟩
 have HBV := Hi hbv
 clear hbv
 refine (QSign_v (Ja1.out.below hw15_) HBV.out.symm (by decide)).mono ?_
 rintro e w57 ⟨rfl, hb⟩
 clear C00 C01 C02 C03 C10 C11 C12 C13 Cp0 Cp1 Cp2 Cp3
 replace x0 := x0.below hb
 replace x1 := x1.below hb
 replace x2 := x2.below hb
 replace xab := xab.below hb
 replace xbc := xbc.below hb
 replace xp := xp.below hb
 replace xq := xq.below hb
 replace xm := xm.below hb
 replace xf := xf.below hb
 replace Jab := Hi (Jab.out.below hb)
 replace Jbc := Hi (Jbc.out.below hb)
 replace Jp := Hi (Jp.out.below hb)
 replace Jq := Hi (Jq.out.below hb)
 replace Jmean := Hi (Jmean.out.below hb)
 replace Jzf := Hi (Jzf.out.below hb)
 replace Jfl := Hi (Jfl.out.below hb)
 have hw16_ := bt hw15_ hb
 clear hb hw15_
 go_upto_if 214 with fail
 obtain ⟨av, hav⟩ : ∃ v, v = cmpQ q0 0 := ⟨_, rfl⟩
 have HAV := Hi hav
 clear hav
 have hsp : bv = 0 ∨ bv ≠ 0 := by omega
 rcases hsp with hsp | hsp
 focus
  obtain ⟨C00, C01, C02, C03⟩ := x0.cs
  go_wp2_with fail
  clear C00 C01 C02 C03
  have hwz := hw16_
  have y0 := x0
  clear hw16_ x0 x1 x2 xab xbc xp xq xm xf Jab Jbc Jp Jq Jmean Jzf Jfl
  obtain ⟨wm, hg⟩ : ∃ W, W = w57 := ⟨_, rfl⟩
  rw [← hg] at hwz y0 ⊢
  clear hg
 rotate_left
 focus
  have HQ1 := Hi (cmpQ_ne.1 (by rw [← HBV.out]; exact hsp) : q1 ≠ 0)
  obtain ⟨C10, C11, C12, C13⟩ := x1.cs
  obtain ⟨Cp0, Cp1, Cp2, Cp3⟩ := xp.cs
  go_wp2_with fail
  refine (QDiv_q Jp.out (Ja1.out.below hw16_) (by decide) (by decide) HQ1.out).mono ?_
  rintro e w58 ⟨dq, rfl, hdq, hb⟩
  clear C10 C11 C12 C13 Cp0 Cp1 Cp2 Cp3
  replace x0 := x0.below hb
  replace x1 := x1.below hb
  replace x2 := x2.below hb
  replace xab := xab.below hb
  replace xbc := xbc.below hb
  replace xp := xp.below hb
  replace xq := xq.below hb
  replace xm := xm.below hb
  replace xf := xf.below hb
  replace Jab := Hi (Jab.out.below hb)
  replace Jbc := Hi (Jbc.out.below hb)
  replace Jp := Hi (Jp.out.below hb)
  replace Jq := Hi (Jq.out.below hb)
  replace Jmean := Hi (Jmean.out.below hb)
  replace Jzf := Hi (Jzf.out.below hb)
  replace Jfl := Hi (Jfl.out.below hb)
  have hw17_ := bt hw16_ hb
  clear hb hw16_
  have Jdq := Hi hdq
  clear hdq
  have x0a := x0.alloc (.cells #[.bool dq.n, .slice dq.A dq.l.length dq.c, .bool dq.m, .slice dq.B dq.k.length dq.d] 35)
  obtain ⟨C00, C01, C02, C03⟩ := x0a.cs
  have x1a := x1.alloc (.cells #[.bool dq.n, .slice dq.A dq.l.length dq.c, .bool dq.m, .slice dq.B dq.k.length dq.d] 35)
  obtain ⟨C10, C11, C12, C13⟩ := x1a.cs
  have x2a := x2.alloc (.cells #[.bool dq.n, .slice dq.A dq.l.length dq.c, .bool dq.m, .slice dq.B dq.k.length dq.d] 35)
  obtain ⟨C20, C21, C22, C23⟩ := x2a.cs
  have xaba := xab.alloc (.cells #[.bool dq.n, .slice dq.A dq.l.length dq.c, .bool dq.m, .slice dq.B dq.k.length dq.d] 35)
  obtain ⟨c_xab_0, c_xab_1, c_xab_2, c_xab_3⟩ := xaba.cs
  have xbca := xbc.alloc (.cells #[.bool dq.n, .slice dq.A dq.l.length dq.c, .bool dq.m, .slice dq.B dq.k.length dq.d] 35)
  obtain ⟨c_xbc_0, c_xbc_1, c_xbc_2, c_xbc_3⟩ := xbca.cs
  have xpa := xp.alloc (.cells #[.bool dq.n, .slice dq.A dq.l.length dq.c, .bool dq.m, .slice dq.B dq.k.length dq.d] 35)
  obtain ⟨Cp0, Cp1, Cp2, Cp3⟩ := xpa.cs
  have xqa := xq.alloc (.cells #[.bool dq.n, .slice dq.A dq.l.length dq.c, .bool dq.m, .slice dq.B dq.k.length dq.d] 35)
  obtain ⟨Cq0, Cq1, Cq2, Cq3⟩ := xqa.cs
  have xma := xm.alloc (.cells #[.bool dq.n, .slice dq.A dq.l.length dq.c, .bool dq.m, .slice dq.B dq.k.length dq.d] 35)
  obtain ⟨Cm0, Cm1, Cm2, Cm3⟩ := xma.cs
  have xfa := xf.alloc (.cells #[.bool dq.n, .slice dq.A dq.l.length dq.c, .bool dq.m, .slice dq.B dq.k.length dq.d] 35)
  obtain ⟨Cf0, Cf1, Cf2, Cf3⟩ := xfa.cs
  go_wp2_with fail
  clear C00 C01 C02 C03 x0a C10 C11 C12 C13 x1a C20 C21 C22 C23 x2a c_xab_0 c_xab_1 c_xab_2 c_xab_3 xaba c_xbc_0 c_xbc_1 c_xbc_2 c_xbc_3 xbca Cp0 Cp1 Cp2 Cp3 xpa Cq0 Cq1 Cq2 Cq3 xqa Cm0 Cm1 Cm2 Cm3 xma Cf0 Cf1 Cf2 Cf3 xfa
  obtain ⟨w59, hw, xd, hb⟩ := nb4 w58 dq.n dq.A dq.c dq.l dq.m dq.B dq.d dq.k
  obtain ⟨xdp, hxdp⟩ : ∃ p, p = w58.heap.size := ⟨_, rfl⟩
  rw [← hxdp] at xd ⊢
  have xdg : w.heap.size ≤ xdp := by have := hw17_.size; omega
  rw [← hw]
  clear hw
  have Nx0_xd : Hid (w.heap.size < xdp) := Hi (by have := x0.lt; omega)
  have Nx1_xd : Hid (w.heap.size + 1 < xdp) := Hi (by have := x1.lt; omega)
  have Nx2_xd : Hid (w.heap.size + 1 + 1 < xdp) := Hi (by have := x2.lt; omega)
  have Nxab_xd : Hid (xabp < xdp) := Hi (by have := xab.lt; omega)
  have Nxbc_xd : Hid (xbcp < xdp) := Hi (by have := xbc.lt; omega)
  have Nxp_xd : Hid (xpp < xdp) := Hi (by have := xp.lt; omega)
  have Nxq_xd : Hid (xqp < xdp) := Hi (by have := xq.lt; omega)
  have Nxm_xd : Hid (xmp < xdp) := Hi (by have := xm.lt; omega)
  have Nxf_xd : Hid (xfp < xdp) := Hi (by have := xf.lt; omega)
  clear hxdp
  replace x0 := x0.below hb
  replace x1 := x1.below hb
  replace x2 := x2.below hb
  replace xab := xab.below hb
  replace xbc := xbc.below hb
  replace xp := xp.below hb
  replace xq := xq.below hb
  replace xm := xm.below hb
  replace xf := xf.below hb
  replace Jab := Hi (Jab.out.below hb)
  replace Jbc := Hi (Jbc.out.below hb)
  replace Jp := Hi (Jp.out.below hb)
  replace Jq := Hi (Jq.out.below hb)
  replace Jmean := Hi (Jmean.out.below hb)
  replace Jzf := Hi (Jzf.out.below hb)
  replace Jfl := Hi (Jfl.out.below hb)
  replace Jdq := Hi (Jdq.out.below hb)
  have hw18_ := bt hw17_ hb
  clear hb hw17_
  obtain ⟨C00, C01, C02, C03⟩ := x0.cs
  obtain ⟨Cd0, Cd1, Cd2, Cd3⟩ := xd.cs
  go_wp2_with fail
  refine (QSame_qe Jdq.out (Ja0.out.below hw18_) (Rat.mul_div_cancel HQ1.out) (by decide) (by decide)).mono ?_
  rintro e w60 ⟨rfl, hb⟩
  clear C00 C01 C02 C03 Cd0 Cd1 Cd2 Cd3
  replace x0 := x0.below hb
  replace x1 := x1.below hb
  replace x2 := x2.below hb
  replace xab := xab.below hb
  replace xbc := xbc.below hb
  replace xp := xp.below hb
  replace xq := xq.below hb
  replace xm := xm.below hb
  replace xf := xf.below hb
  replace xd := xd.below hb
  replace Jab := Hi (Jab.out.below hb)
  replace Jbc := Hi (Jbc.out.below hb)
  replace Jp := Hi (Jp.out.below hb)
  replace Jq := Hi (Jq.out.below hb)
  replace Jmean := Hi (Jmean.out.below hb)
  replace Jzf := Hi (Jzf.out.below hb)
  replace Jfl := Hi (Jfl.out.below hb)
  replace Jdq := Hi (Jdq.out.below hb)
  have hw19_ := bt hw18_ hb
  clear hb hw18_
  obtain ⟨C00, C01, C02, C03⟩ := x0.cs
  go_wp2_with fail
  clear C00 C01 C02 C03
  have hwz := hw19_
  have y0 := x0
  clear hw19_ x0 x1 x2 xab xbc xp xq xm xf xd Jab Jbc Jp Jq Jmean Jzf Jfl Jdq
  obtain ⟨wm, hg⟩ : ∃ W, W = w60 := ⟨_, rfl⟩
  rw [← hg] at hwz y0 ⊢
  clear hg
 rotate_left
 all_goals
  as_aux_lemma =>
  refine (QSign_v (Ja0.out.below hwz) HAV.out.symm (by decide)).mono ?_
  rintro e w61 ⟨rfl, hb⟩
  replace y0 := y0.below hb
  have hw20_ := bt hwz hb
  clear hb hwz
  obtain ⟨c_y0_0, c_y0_1, c_y0_2, c_y0_3⟩ := y0.cs
  go_wp2_with fail
  ·refine (sane2 _ (HTn.out.below hw20_)).mono ?_
   rintro e1 wz ⟨rfl, hb⟩
   clear c_y0_0 c_y0_1 c_y0_2 c_y0_3
   replace y0 := y0.below hb
   have hw21_ := bt hw20_ hb
   clear hb hw20_
   go_wp2_with fail
   go_ret
   exact ⟨rfl, hw21_⟩
  ·refine (sane2 _ (HTn.out.below hw20_)).mono ?_
   rintro e1 wz ⟨rfl, hb⟩
   clear c_y0_0 c_y0_1 c_y0_2 c_y0_3
   replace y0 := y0.below hb
   have hw22_ := bt hw20_ hb
   clear hb hw20_
   go_wp2_with fail
   go_ret
   exact ⟨rfl, hw22_⟩
  ·clear c_y0_0 c_y0_1 c_y0_2 c_y0_3
   have HA := Hi (cmpQ_ne.1 (by rw [← HAV.out]; omega) : q0 ≠ 0)
   have HI := Hi (show i0.natAbs ≤ 8 ∧ j0.natAbs ≤ 8 by omega)
   have hws : IntKind.i64.wrap (i0 + j0) = i0 + j0 := IntWalk.i64_in _ ⟨by omega, by omega⟩
   have hmu : (i0 * j0).natAbs ≤ 64 := by rw [Int.natAbs_mul]; exact Nat.mul_le_mul HI.out.1 HI.out.2
   have hwm : IntKind.i64.wrap (i0 * j0) = i0 * j0 := IntWalk.i64_in _ ⟨by omega, by omega⟩
   have HMU := Hi hmu
   clear hmu
   refine (QPow_m 8 (Ja0.out.below hw20_) HA.out HI.out.1 (by decide) (by decide) (by decide)).mono ?_
   rintro e w62 ⟨xv, rfl, hxv, hb⟩
   replace y0 := y0.below hb
   have hw23_ := bt hw20_ hb
   clear hb hw20_
   have Jxv := Hi hxv
   clear hxv
   have y0a := y0.alloc (.cells #[.bool xv.n, .slice xv.A xv.l.length xv.c, .bool xv.m, .slice xv.B xv.k.length xv.d] 35)
   obtain ⟨c_y0_0, c_y0_1, c_y0_2, c_y0_3⟩ := y0a.cs
   go_wp2_with fail
   clear c_y0_0 c_y0_1 c_y0_2 c_y0_3 y0a
   obtain ⟨w63, hw, xx, hb⟩ := nb4 w62 xv.n xv.A xv.c xv.l xv.m xv.B xv.d xv.k
   obtain ⟨xxp, hxxp⟩ : ∃ p, p = w62.heap.size := ⟨_, rfl⟩
   rw [← hxxp] at xx ⊢
   have xxg : w.heap.size ≤ xxp := by have := hw23_.size; omega
   rw [← hw]
   clear hw
   have Ny0_xx : Hid (w.heap.size < xxp) := Hi (by have := y0.lt; omega)
   clear hxxp
   replace y0 := y0.below hb
   replace Jxv := Hi (Jxv.out.below hb)
   have hw24_ := bt hw23_ hb
   clear hb hw23_
   refine (QPow_m 8 (Ja0.out.below hw24_) HA.out HI.out.2 (by decide) (by decide) (by decide)).mono ?_
   rintro e w64 ⟨yv, rfl, hyv, hb⟩
   replace y0 := y0.below hb
   replace xx := xx.below hb
   replace Jxv := Hi (Jxv.out.below hb)
   have hw25_ := bt hw24_ hb
   clear hb hw24_
   have Jyv := Hi hyv
   clear hyv
   have y0a := y0.alloc (.cells #[.bool yv.n, .slice yv.A yv.l.length yv.c, .bool yv.m, .slice yv.B yv.k.length yv.d] 35)
   obtain ⟨c_y0_0, c_y0_1, c_y0_2, c_y0_3⟩ := y0a.cs
   have xxa := xx.alloc (.cells #[.bool yv.n, .slice yv.A yv.l.length yv.c, .bool yv.m, .slice yv.B yv.k.length yv.d] 35)
   obtain ⟨Cx0, Cx1, Cx2, Cx3⟩ := xxa.cs
   go_wp2_with fail
   clear c_y0_0 c_y0_1 c_y0_2 c_y0_3 y0a Cx0 Cx1 Cx2 Cx3 xxa
   obtain ⟨w65, hw, xy, hb⟩ := nb4 w64 yv.n yv.A yv.c yv.l yv.m yv.B yv.d yv.k
   obtain ⟨xyp, hxyp⟩ : ∃ p, p = w64.heap.size := ⟨_, rfl⟩
   rw [← hxyp] at xy ⊢
   have xyg : w.heap.size ≤ xyp := by have := hw25_.size; omega
   rw [← hw]
   clear hw
   have Ny0_xy : Hid (w.heap.size < xyp) := Hi (by have := y0.lt; omega)
   have Nxx_xy : Hid (xxp < xyp) := Hi (by have := xx.lt; omega)
   clear hxyp
   replace y0 := y0.below hb
   replace xx := xx.below hb
   replace Jxv := Hi (Jxv.out.below hb)
   replace Jyv := Hi (Jyv.out.below hb)
   have hw26_ := bt hw25_ hb
   clear hb hw25_
   refine (QPow_m 16 (Ja0.out.below hw26_) HA.out (by have := HI.out; omega) (by decide) (by decide) (by decide)).mono ?_
   rintro e w66 ⟨zv, rfl, hzv, hb⟩
   replace y0 := y0.below hb
   replace xx := xx.below hb
   replace xy := xy.below hb
   replace Jxv := Hi (Jxv.out.below hb)
   replace Jyv := Hi (Jyv.out.below hb)
   have hw27_ := bt hw26_ hb
   clear hb hw26_
   have Jzv := Hi hzv
   clear hzv
   have y0a := y0.alloc (.cells #[.bool zv.n, .slice zv.A zv.l.length zv.c, .bool zv.m, .slice zv.B zv.k.length zv.d] 35)
   obtain ⟨c_y0_0, c_y0_1, c_y0_2, c_y0_3⟩ := y0a.cs
   have xxa := xx.alloc (.cells #[.bool zv.n, .slice zv.A zv.l.length zv.c, .bool zv.m, .slice zv.B zv.k.length zv.d] 35)
   obtain ⟨Cx0, Cx1, Cx2, Cx3⟩ := xxa.cs
   have xya := xy.alloc (.cells #[.bool zv.n, .slice zv.A zv.l.length zv.c, .bool zv.m, .slice zv.B zv.k.length zv.d] 35)
   obtain ⟨Cy0, Cy1, Cy2, Cy3⟩ := xya.cs
   go_wp2_with fail
   clear c_y0_0 c_y0_1 c_y0_2 c_y0_3 y0a Cx0 Cx1 Cx2 Cx3 xxa Cy0 Cy1 Cy2 Cy3 xya
   obtain ⟨w67, hw, xz, hb⟩ := nb4 w66 zv.n zv.A zv.c zv.l zv.m zv.B zv.d zv.k
   obtain ⟨xzp, hxzp⟩ : ∃ p, p = w66.heap.size := ⟨_, rfl⟩
   rw [← hxzp] at xz ⊢
   have xzg : w.heap.size ≤ xzp := by have := hw27_.size; omega
   rw [← hw]
   clear hw
   have Ny0_xz : Hid (w.heap.size < xzp) := Hi (by have := y0.lt; omega)
   have Nxx_xz : Hid (xxp < xzp) := Hi (by have := xx.lt; omega)
   have Nxy_xz : Hid (xyp < xzp) := Hi (by have := xy.lt; omega)
   clear hxzp
   replace y0 := y0.below hb
   replace xx := xx.below hb
   replace xy := xy.below hb
   replace Jxv := Hi (Jxv.out.below hb)
   replace Jyv := Hi (Jyv.out.below hb)
   replace Jzv := Hi (Jzv.out.below hb)
   have hw28_ := bt hw27_ hb
   clear hb hw27_
   go_cut [290] (fun v wx => v = .bool false ∧ Below w67.heap.size w67 wx)
   case first =>
    as_aux_lemma =>
    have HC := (hj xx.hc (hj xy.hc xz.hc))
    have HW := Hi hw28_
    have Gy0 := Hi y0
    have Gxx := Hi xx
    have Gxy := Hi xy
    have Gxz := Hi xz
    clear y0 xx xy xz hw28_
    refine rgh HC fun hHeld => ?_
    refine tk 0 ?_
    refine tk 1 ?_
    refine tk 2 ?_
    refine tk 3 ?_
    refine tk 4 ?_
    refine tk 5 ?_
    refine tk 6 ?_
    refine tk 7 ?_
    refine tk 8 ?_
    refine tk 9 ?_
    refine tk 10 ?_
    refine tk 11 ?_
    refine tk 12 ?_
    refine tk 14 ?_
    refine cl 13 fun K hK => ?_
    go_simp
    go_at_call 52
    refine (QMul_q (Jxv.out.below (bw (b0 _))) (Jyv.out.below (bw (b0 _))) (by decide) (by decide)).mono ?_
    rintro e y69 ⟨t1, rfl, ht1, hb⟩
    have HBy69 := Hi (bt (bw (b0 w67)) hb)
    have Jt1 := Hi ht1
    clear hb ht1 hHeld
    refine rk hK (HC.out _ HBy69.out) fun hHeld => ?_
    clear hK K
    refine cl 15 fun K hK => ?_
    go_simp
    go_at_call 32
    refine (QSame_qe Jt1.out (Jzv.out.below HBy69.out) ((Rat.zpow_add HA.out i0 j0).symm) (by decide) (by decide)).mono ?_
    rintro e y70 ⟨rfl, hb⟩
    replace Jt1 := Hi (Jt1.out.below hb)
    have HBy70 := Hi (bt HBy69.out hb)
    clear hb  hHeld
    refine rk hK (HC.out _ HBy70.out) fun hHeld => ?_
    clear hK K
    refine tk 16 ?_
    refine tk 17 ?_
    refine wpAnyH_done (by kernel_rfl) ?_ _
    clear hHeld
    go_wp2_with fail
    go_meet
    exact ⟨rfl, HBy70.out⟩
   case rest =>
   obtain ⟨rfl, hb⟩ := hcut
   obtain ⟨w68, hwn⟩ : ∃ v, v = wc := ⟨_, rfl⟩
   rw [← hwn] at hb ⊢
   clear hwn wc
   replace y0 := y0.below hb
   replace xx := xx.below hb
   replace xy := xy.below hb
   replace xz := xz.below hb
   replace Jxv := Hi (Jxv.out.below hb)
   replace Jyv := Hi (Jyv.out.below hb)
   replace Jzv := Hi (Jzv.out.below hb)
   have hw29_ := bt hw28_ hb
   clear hb hw28_
   obtain ⟨c_y0_0, c_y0_1, c_y0_2, c_y0_3⟩ := y0.cs
   obtain ⟨Cx0, Cx1, Cx2, Cx3⟩ := xx.cs
   go_wp2_with fail
   refine (QPow_m 8 Jxv.out (zpow_ne HA.out i0) HI.out.2 (by decide) (by decide) (by decide)).mono ?_
   rintro e w71 ⟨uv, rfl, huv, hb⟩
   clear c_y0_0 c_y0_1 c_y0_2 c_y0_3 Cx0 Cx1 Cx2 Cx3
   replace y0 := y0.below hb
   replace xx := xx.below hb
   replace xy := xy.below hb
   replace xz := xz.below hb
   replace Jxv := Hi (Jxv.out.below hb)
   replace Jyv := Hi (Jyv.out.below hb)
   replace Jzv := Hi (Jzv.out.below hb)
   have hw30_ := bt hw29_ hb
   clear hb hw29_
   have Juv := Hi huv
   clear huv
   have y0a := y0.alloc (.cells #[.bool uv.n, .slice uv.A uv.l.length uv.c, .bool uv.m, .slice uv.B uv.k.length uv.d] 35)
   obtain ⟨c_y0_0, c_y0_1, c_y0_2, c_y0_3⟩ := y0a.cs
   have xxa := xx.alloc (.cells #[.bool uv.n, .slice uv.A uv.l.length uv.c, .bool uv.m, .slice uv.B uv.k.length uv.d] 35)
   obtain ⟨Cx0, Cx1, Cx2, Cx3⟩ := xxa.cs
   have xya := xy.alloc (.cells #[.bool uv.n, .slice uv.A uv.l.length uv.c, .bool uv.m, .slice uv.B uv.k.length uv.d] 35)
   obtain ⟨Cy0, Cy1, Cy2, Cy3⟩ := xya.cs
   have xza := xz.alloc (.cells #[.bool uv.n, .slice uv.A uv.l.length uv.c, .bool uv.m, .slice uv.B uv.k.length uv.d] 35)
   obtain ⟨Cz0, Cz1, Cz2, Cz3⟩ := xza.cs
   go_wp2_with fail
   clear c_y0_0 c_y0_1 c_y0_2 c_y0_3 y0a Cx0 Cx1 Cx2 Cx3 xxa Cy0 Cy1 Cy2 Cy3 xya Cz0 Cz1 Cz2 Cz3 xza
   obtain ⟨w72, hw, xu, hb⟩ := nb4 w71 uv.n uv.A uv.c uv.l uv.m uv.B uv.d uv.k
   obtain ⟨xup, hxup⟩ : ∃ p, p = w71.heap.size := ⟨_, rfl⟩
   rw [← hxup] at xu ⊢
   have xug : w.heap.size ≤ xup := by have := hw30_.size; omega
   rw [← hw]
   clear hw
   have Ny0_xu : Hid (w.heap.size < xup) := Hi (by have := y0.lt; omega)
   have Nxx_xu : Hid (xxp < xup) := Hi (by have := xx.lt; omega)
   have Nxy_xu : Hid (xyp < xup) := Hi (by have := xy.lt; omega)
   have Nxz_xu : Hid (xzp < xup) := Hi (by have := xz.lt; omega)
   clear hxup
   replace y0 := y0.below hb
   replace xx := xx.below hb
   replace xy := xy.below hb
   replace xz := xz.below hb
   replace Jxv := Hi (Jxv.out.below hb)
   replace Jyv := Hi (Jyv.out.below hb)
   replace Jzv := Hi (Jzv.out.below hb)
   replace Juv := Hi (Juv.out.below hb)
   have hw31_ := bt hw30_ hb
   clear hb hw30_
   refine (QPow_m 64 (Ja0.out.below hw31_) HA.out HMU.out (by decide) (by decide) (by decide)).mono ?_
   rintro e w73 ⟨vv, rfl, hvv, hb⟩
   replace y0 := y0.below hb
   replace xx := xx.below hb
   replace xy := xy.below hb
   replace xz := xz.below hb
   replace xu := xu.below hb
   replace Jxv := Hi (Jxv.out.below hb)
   replace Jyv := Hi (Jyv.out.below hb)
   replace Jzv := Hi (Jzv.out.below hb)
   replace Juv := Hi (Juv.out.below hb)
   have hw32_ := bt hw31_ hb
   clear hb hw31_
   have Jvv := Hi hvv
   clear hvv
   have y0a := y0.alloc (.cells #[.bool vv.n, .slice vv.A vv.l.length vv.c, .bool vv.m, .slice vv.B vv.k.length vv.d] 35)
   obtain ⟨c_y0_0, c_y0_1, c_y0_2, c_y0_3⟩ := y0a.cs
   have xxa := xx.alloc (.cells #[.bool vv.n, .slice vv.A vv.l.length vv.c, .bool vv.m, .slice vv.B vv.k.length vv.d] 35)
   obtain ⟨Cx0, Cx1, Cx2, Cx3⟩ := xxa.cs
   have xya := xy.alloc (.cells #[.bool vv.n, .slice vv.A vv.l.length vv.c, .bool vv.m, .slice vv.B vv.k.length vv.d] 35)
   obtain ⟨Cy0, Cy1, Cy2, Cy3⟩ := xya.cs
   have xza := xz.alloc (.cells #[.bool vv.n, .slice vv.A vv.l.length vv.c, .bool vv.m, .slice vv.B vv.k.length vv.d] 35)
   obtain ⟨Cz0, Cz1, Cz2, Cz3⟩ := xza.cs
   have xua := xu.alloc (.cells #[.bool vv.n, .slice vv.A vv.l.length vv.c, .bool vv.m, .slice vv.B vv.k.length vv.d] 35)
   obtain ⟨Cu0, Cu1, Cu2, Cu3⟩ := xua.cs
   go_wp2_with fail
   clear c_y0_0 c_y0_1 c_y0_2 c_y0_3 y0a Cx0 Cx1 Cx2 Cx3 xxa Cy0 Cy1 Cy2 Cy3 xya Cz0 Cz1 Cz2 Cz3 xza Cu0 Cu1 Cu2 Cu3 xua
   obtain ⟨w74, hw, xw, hb⟩ := nb4 w73 vv.n vv.A vv.c vv.l vv.m vv.B vv.d vv.k
   obtain ⟨xwp, hxwp⟩ : ∃ p, p = w73.heap.size := ⟨_, rfl⟩
   rw [← hxwp] at xw ⊢
   have xwg : w.heap.size ≤ xwp := by have := hw32_.size; omega
   rw [← hw]
   clear hw
   have Ny0_xw : Hid (w.heap.size < xwp) := Hi (by have := y0.lt; omega)
   have Nxx_xw : Hid (xxp < xwp) := Hi (by have := xx.lt; omega)
   have Nxy_xw : Hid (xyp < xwp) := Hi (by have := xy.lt; omega)
   have Nxz_xw : Hid (xzp < xwp) := Hi (by have := xz.lt; omega)
   have Nxu_xw : Hid (xup < xwp) := Hi (by have := xu.lt; omega)
   clear hxwp
   replace y0 := y0.below hb
   replace xx := xx.below hb
   replace xy := xy.below hb
   replace xz := xz.below hb
   replace xu := xu.below hb
   replace Jxv := Hi (Jxv.out.below hb)
   replace Jyv := Hi (Jyv.out.below hb)
   replace Jzv := Hi (Jzv.out.below hb)
   replace Juv := Hi (Juv.out.below hb)
   replace Jvv := Hi (Jvv.out.below hb)
   have hw33_ := bt hw32_ hb
   clear hb hw32_
   refine (sane2 _ (HTn.out.below hw33_)).mono ?_
   rintro e1 wz ⟨rfl, hb⟩
   replace y0 := y0.below hb
   replace xx := xx.below hb
   replace xy := xy.below hb
   replace xz := xz.below hb
   replace xu := xu.below hb
   replace xw := xw.below hb
   replace Jxv := Hi (Jxv.out.below hb)
   replace Jyv := Hi (Jyv.out.below hb)
   replace Jzv := Hi (Jzv.out.below hb)
   replace Juv := Hi (Juv.out.below hb)
   replace Jvv := Hi (Jvv.out.below hb)
   have hw34_ := bt hw33_ hb
   clear hb hw33_
   obtain ⟨Cu0, Cu1, Cu2, Cu3⟩ := xu.cs
   obtain ⟨Cw0, Cw1, Cw2, Cw3⟩ := xw.cs
   go_wp2_with fail
   refine (QSame_we Juv.out Jvv.out (zpow_mul' q0 i0 j0).symm (by decide) (by decide)).mono ?_
   rintro e w75 ⟨rfl, hb⟩
   clear Cu0 Cu1 Cu2 Cu3 Cw0 Cw1 Cw2 Cw3
   replace y0 := y0.below hb
   replace xx := xx.below hb
   replace xy := xy.below hb
   replace xz := xz.below hb
   replace xu := xu.below hb
   replace xw := xw.below hb
   replace Jxv := Hi (Jxv.out.below hb)
   replace Jyv := Hi (Jyv.out.below hb)
   replace Jzv := Hi (Jzv.out.below hb)
   replace Juv := Hi (Juv.out.below hb)
   replace Jvv := Hi (Jvv.out.below hb)
   have hw35_ := bt hw34_ hb
   clear hb hw34_
   go_wp2_with fail
   go_ret
   exact ⟨rfl, hw35_⟩
  ·refine (sane2 _ (HTn.out.below hw20_)).mono ?_
   rintro e1 wz ⟨rfl, hb⟩
   clear c_y0_0 c_y0_1 c_y0_2 c_y0_3
   replace y0 := y0.below hb
   have hw36_ := bt hw20_ hb
   clear hb hw20_
   go_wp2_with fail
   go_ret
   exact ⟨rfl, hw36_⟩
  ·refine (sane2 _ (HTn.out.below hw20_)).mono ?_
   rintro e1 wz ⟨rfl, hb⟩
   clear c_y0_0 c_y0_1 c_y0_2 c_y0_3
   replace y0 := y0.below hb
   have hw37_ := bt hw20_ hb
   clear hb hw20_
   go_wp2_with fail
   go_ret
   exact ⟨rfl, hw37_⟩
  ·refine (sane2 _ (HTn.out.below hw20_)).mono ?_
   rintro e1 wz ⟨rfl, hb⟩
   clear c_y0_0 c_y0_1 c_y0_2 c_y0_3
   replace y0 := y0.below hb
   have hw38_ := bt hw20_ hb
   clear hb hw20_
   go_wp2_with fail
   go_ret
   exact ⟨rfl, hw38_⟩
theorem RatField_walk (w : World) (hA0 : WS w A0 l0) (hB0 : WS w B0 k0) (hL0 : l0.length ≤ c0 ∧ k0.length ≤ d0) (hA1 : WS w A1 l1) (hB1 : WS w B1 k1) (hL1 : l1.length ≤ c1 ∧ k1.length ≤ d1) (hA2 : WS w A2 l2) (hB2 : WS w B2 k2) (hL2 : l2.length ≤ c2 ∧ k2.length ≤ d2) (hT : Tens w) :
  Calls Tryz.prog 8 #[.agg #[.bool n0, .slice A0 l0.length c0, .bool m0, .slice B0 k0.length d0], .agg #[.bool n1, .slice A1 l1.length c1, .bool m1, .slice B1 k1.length d1], .agg #[.bool n2, .slice A2 l2.length c2, .bool m2, .slice B2 k2.length d2], .int .i8 i0, .int .i8 j0] w fun e w' => e = .returned (.bool true) ∧ Below w.heap.size w w' := by
 cases ht0 : (decide (l0.length ≤ 8) && decide (k0.length ≤ 8) && isQ n0 l0 m0 k0) with
 | false => exact RatField_n0 hT hA0 hB0 hL0 hA1 hB1 hL1 hA2 hB2 hL2  ht0
 | true =>
  cases ht1 : (decide (l1.length ≤ 8) && decide (k1.length ≤ 8) && isQ n1 l1 m1 k1) with
  | false => exact RatField_n1 hT hA0 hB0 hL0 hA1 hB1 hL1 hA2 hB2 hL2 ht0 ht1
  | true =>
   cases ht2 : (decide (l2.length ≤ 8) && decide (k2.length ≤ 8) && isQ n2 l2 m2 k2) with
   | false => exact RatField_n2 hT hA0 hB0 hL0 hA1 hB1 hL1 hA2 hB2 hL2 ht0 ht1 ht2
   | true =>
    obtain ⟨q0, v0⟩ := small_q hA0 hB0 hL0.1 hL0.2 ht0
    obtain ⟨q1, v1⟩ := small_q hA1 hB1 hL1.1 hL1.2 ht1
    obtain ⟨q2, v2⟩ := small_q hA2 hB2 hL2.1 hL2.2 ht2
    have r := RatField_m hT v0 v1 v2 (i0 := i0) (j0 := j0)
    exact r
end Go.Proofs.YtgljdfblgpdaaaaGreatDoor
