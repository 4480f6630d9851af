import Derived.Test.YtgljdfblgpdaaaaGreatDoorSiRatMac
import Derived.Test.YtgljdfblgpdaaaaGreatDoorSiRatQs
set_option linter.unusedSimpArgs false
set_option linter.unusedVariables false
set_option maxRecDepth 100000
set_option maxHeartbeats 4000000
namespace Go.Proofs.YtgljdfblgpdaaaaGreatDoor
open Go.RowKit Go.Shelf
variable {A0 A1 A2 B0 B1 B2 : Option Addr} {c0 c1 c2 d0 d1 d2 : Nat} {k0 k1 k2 l0 l1 l2 : List Nat} {m0 m1 m2 n0 n1 n2 : Bool} {w : World}
theorem RatSimplest_n0  (hT : Tens w) (hA0 : WS w A0 l0) (hB0 : WS w B0 k0) (hL0 : l0.length ≤ c0 ∧ k0.length ≤ d0) (hA1 : WS w A1 l1) (hB1 : WS w B1 k1) (hL1 : l1.length ≤ c1 ∧ k1.length ≤ d1) (hA2 : WS w A2 l2) (hB2 : WS w B2 k2) (hL2 : l2.length ≤ c2 ∧ k2.length ≤ d2)  (hf : (decide (l0.length ≤ 6) && decide (k0.length ≤ 6) && isQ n0 l0 m0 k0) = false) :
  Calls Tryz.prog 7 #[.agg #[.bool n0, .slice A0 l0.length c0, .bool m0, .slice B0 k0.length d0], .agg #[.bool n1, .slice A1 l1.length c1, .bool m1, .slice B1 k1.length d1], .agg #[.bool n2, .slice A2 l2.length c2, .bool m2, .slice B2 k2.length d2]] w fun e w' => e = .returned (.bool true) ∧ Below w.heap.size w w' := by
 have HTn := Hi hT
 clear hT
 have HA0 := Hi hA0
 have HB0 := Hi hB0
 have HL0 := Hi hL0
 clear hA0 hB0 hL0
 have HA1 := Hi hA1
 have HB1 := Hi hB1
 have HL1 := Hi hL1
 clear hA1 hB1 hL1
 have HA2 := Hi hA2
 have HB2 := Hi hB2
 have HL2 := Hi hL2
 clear hA2 hB2 hL2
 have HF := Hi hf
 clear hf
 obtain ⟨W1, hW1, hw1, x0, x1, x2⟩ := hdQQQ w n0 A0 c0 l0 m0 B0 d0 k0 n1 A1 c1 l1 m1 B1 d1 k1 n2 A2 c2 l2 m2 B2 d2 k2
 go_enter Tryz.func7, Tryz.ntmps7
 go_wp2_with fail
 rw [← hW1]
 clear hW1
 refine (small_any (N := 6) (by decide) (HA0.out.below hw1) (HB0.out.below hw1) HL0.out.1 HL0.out.2).mono ?_
 rintro e wa0 ⟨rfl, hb⟩
 replace x0 := x0.below hb
 replace x1 := x1.below hb
 replace x2 := x2.below hb
 have hw1_ := bt hw1 hb
 clear hb hw1
 rw [HF.out]
 go_wp2_with fail
 refine (sane2 _ (HTn.out.below hw1_)).mono ?_
 rintro e wz ⟨rfl, hb⟩
 replace x0 := x0.below hb
 replace x1 := x1.below hb
 replace x2 := x2.below hb
 exact mafd61
theorem RatSimplest_n1  (hT : Tens w) (hA0 : WS w A0 l0) (hB0 : WS w B0 k0) (hL0 : l0.length ≤ c0 ∧ k0.length ≤ d0) (hA1 : WS w A1 l1) (hB1 : WS w B1 k1) (hL1 : l1.length ≤ c1 ∧ k1.length ≤ d1) (hA2 : WS w A2 l2) (hB2 : WS w B2 k2) (hL2 : l2.length ≤ c2 ∧ k2.length ≤ d2) (ht0 : (decide (l0.length ≤ 6) && decide (k0.length ≤ 6) && isQ n0 l0 m0 k0) = true) (hf : (decide (l1.length ≤ 6) && decide (k1.length ≤ 6) && isQ n1 l1 m1 k1) = false) :
  Calls Tryz.prog 7 #[.agg #[.bool n0, .slice A0 l0.length c0, .bool m0, .slice B0 k0.length d0], .agg #[.bool n1, .slice A1 l1.length c1, .bool m1, .slice B1 k1.length d1], .agg #[.bool n2, .slice A2 l2.length c2, .bool m2, .slice B2 k2.length d2]] w fun e w' => e = .returned (.bool true) ∧ Below w.heap.size w w' := by
 have HTn := Hi hT
 clear hT
 have HA0 := Hi hA0
 have HB0 := Hi hB0
 have HL0 := Hi hL0
 clear hA0 hB0 hL0
 have HA1 := Hi hA1
 have HB1 := Hi hB1
 have HL1 := Hi hL1
 clear hA1 hB1 hL1
 have HA2 := Hi hA2
 have HB2 := Hi hB2
 have HL2 := Hi hL2
 clear hA2 hB2 hL2
 have HT0 := Hi ht0
 clear ht0
 have HF := Hi hf
 clear hf
 obtain ⟨W1, hW1, hw1, x0, x1, x2⟩ := hdQQQ w n0 A0 c0 l0 m0 B0 d0 k0 n1 A1 c1 l1 m1 B1 d1 k1 n2 A2 c2 l2 m2 B2 d2 k2
 go_enter Tryz.func7, Tryz.ntmps7
 go_wp2_with fail
 rw [← hW1]
 clear hW1
 refine (small_any (N := 6) (by decide) (HA0.out.below hw1) (HB0.out.below hw1) HL0.out.1 HL0.out.2).mono ?_
 rintro e wa0 ⟨rfl, hb⟩
 replace x0 := x0.below hb
 replace x1 := x1.below hb
 replace x2 := x2.below hb
 have hw1_ := bt hw1 hb
 clear hb hw1
 rw [HT0.out]
 refine g012 ?_
 intros
 refine (small_any (N := 6) (by decide) (HA1.out.below hw1_) (HB1.out.below hw1_) HL1.out.1 HL1.out.2).mono ?_
 rintro e wa1 ⟨rfl, hb⟩
 replace x0 := x0.below hb
 replace x1 := x1.below hb
 replace x2 := x2.below hb
 have hw2_ := bt hw1_ hb
 clear hb hw1_
 rw [HF.out]
 go_wp2_with fail
 refine (sane2 _ (HTn.out.below hw2_)).mono ?_
 rintro e wz ⟨rfl, hb⟩
 replace x0 := x0.below hb
 replace x1 := x1.below hb
 replace x2 := x2.below hb
 have hw3_ := bt hw2_ hb
 clear hb hw2_
 go_wp2_with fail
 go_ret
 exact ⟨rfl, hw3_⟩
theorem RatSimplest_n2  (hT : Tens w) (hA0 : WS w A0 l0) (hB0 : WS w B0 k0) (hL0 : l0.length ≤ c0 ∧ k0.length ≤ d0) (hA1 : WS w A1 l1) (hB1 : WS w B1 k1) (hL1 : l1.length ≤ c1 ∧ k1.length ≤ d1) (hA2 : WS w A2 l2) (hB2 : WS w B2 k2) (hL2 : l2.length ≤ c2 ∧ k2.length ≤ d2) (ht0 : (decide (l0.length ≤ 6) && decide (k0.length ≤ 6) && isQ n0 l0 m0 k0) = true) (ht1 : (decide (l1.length ≤ 6) && decide (k1.length ≤ 6) && isQ n1 l1 m1 k1) = true) (hf : (decide (l2.length ≤ 6) && decide (k2.length ≤ 6) && isQ n2 l2 m2 k2) = false) :
  Calls Tryz.prog 7 #[.agg #[.bool n0, .slice A0 l0.length c0, .bool m0, .slice B0 k0.length d0], .agg #[.bool n1, .slice A1 l1.length c1, .bool m1, .slice B1 k1.length d1], .agg #[.bool n2, .slice A2 l2.length c2, .bool m2, .slice B2 k2.length d2]] w fun e w' => e = .returned (.bool true) ∧ Below w.heap.size w w' := by
 have HTn := Hi hT
 clear hT
 have HA0 := Hi hA0
 have HB0 := Hi hB0
 have HL0 := Hi hL0
 clear hA0 hB0 hL0
 have HA1 := Hi hA1
 have HB1 := Hi hB1
 have HL1 := Hi hL1
 clear hA1 hB1 hL1
 have HA2 := Hi hA2
 have HB2 := Hi hB2
 have HL2 := Hi hL2
 clear hA2 hB2 hL2
 have HT0 := Hi ht0
 clear ht0
 have HT1 := Hi ht1
 clear ht1
 have HF := Hi hf
 clear hf
 obtain ⟨W1, hW1, hw1, x0, x1, x2⟩ := hdQQQ w n0 A0 c0 l0 m0 B0 d0 k0 n1 A1 c1 l1 m1 B1 d1 k1 n2 A2 c2 l2 m2 B2 d2 k2
 go_enter Tryz.func7, Tryz.ntmps7
 go_wp2_with fail
 rw [← hW1]
 clear hW1
 refine (small_any (N := 6) (by decide) (HA0.out.below hw1) (HB0.out.below hw1) HL0.out.1 HL0.out.2).mono ?_
 rintro e wa0 ⟨rfl, hb⟩
 replace x0 := x0.below hb
 replace x1 := x1.below hb
 replace x2 := x2.below hb
 have hw1_ := bt hw1 hb
 clear hb hw1
 rw [HT0.out]
 refine g012 ?_
 intros
 refine (small_any (N := 6) (by decide) (HA1.out.below hw1_) (HB1.out.below hw1_) HL1.out.1 HL1.out.2).mono ?_
 rintro e wa1 ⟨rfl, hb⟩
 replace x0 := x0.below hb
 replace x1 := x1.below hb
 replace x2 := x2.below hb
 have hw2_ := bt hw1_ hb
 clear hb hw1_
 rw [HT1.out]
 refine g012 ?_
 intros
 refine (small_any (N := 6) (by decide) (HA2.out.below hw2_) (HB2.out.below hw2_) HL2.out.1 HL2.out.2).mono ?_
 rintro e wa2 ⟨rfl, hb⟩
 replace x0 := x0.below hb
 replace x1 := x1.below hb
 replace x2 := x2.below hb
 have hw3_ := bt hw2_ hb
 clear hb hw2_
 rw [HF.out]
 go_wp2_with fail
 refine (sane2 _ (HTn.out.below hw3_)).mono ?_
 rintro e wz ⟨rfl, hb⟩
 replace x0 := x0.below hb
 replace x1 := x1.below hb
 replace x2 := x2.below hb
 have hw4_ := bt hw3_ hb
 clear hb hw3_
 go_wp2_with fail
 go_ret
 exact ⟨rfl, hw4_⟩
theorem RatSimplest_e {a0 a1 a2 : QW} {q0 q1 q2 : Rat} (hT : Tens w) (j0 : QV 6 w a0 q0) (j1 : QV 6 w a1 q1) (j2 : QV 6 w a2 q2) (hq : q1 < q0) :
  Calls Tryz.prog 7 #[.agg #[.bool a0.n, .slice a0.A a0.l.length a0.c, .bool a0.m, .slice a0.B a0.k.length a0.d], .agg #[.bool a1.n, .slice a1.A a1.l.length a1.c, .bool a1.m, .slice a1.B a1.k.length a1.d], .agg #[.bool a2.n, .slice a2.A a2.l.length a2.c, .bool a2.m, .slice a2.B a2.k.length a2.d]] w fun e w' => e = .returned (.bool true) ∧ Below w.heap.size w w' := by
 have HTn := Hi hT
 clear hT
 have Ja0 := Hi j0
 clear j0
 have Ja1 := Hi j1
 clear j1
 have Ja2 := Hi j2
 clear j2
 have HQ := Hi hq
 clear hq
 obtain ⟨W1, hW1, hw1, x0, x1, x2⟩ := hdQQQ w a0.n a0.A a0.c a0.l a0.m a0.B a0.d a0.k a1.n a1.A a1.c a1.l a1.m a1.B a1.d a1.k a2.n a2.A a2.c a2.l a2.m a2.B a2.d a2.k
 go_enter Tryz.func7, Tryz.ntmps7
 go_wp2_with fail
 rw [← hW1]
 clear hW1
 refine (small_yes (N := 6) (Ja0.out.below hw1) (by decide)).mono ?_
 rintro e w2 ⟨rfl, hb⟩
 replace x0 := x0.below hb
 replace x1 := x1.below hb
 replace x2 := x2.below hb
 have hw1_ := bt hw1 hb
 clear hb hw1
 obtain ⟨C00, C01, C02, C03⟩ := x0.cs
 obtain ⟨C10, C11, C12, C13⟩ := x1.cs
 obtain ⟨C20, C21, C22, C23⟩ := x2.cs
 go_wp2_with fail
 refine (small_yes (N := 6) (Ja1.out.below hw1_) (by decide)).mono ?_
 rintro e w3 ⟨rfl, hb⟩
 clear C00 C01 C02 C03 C10 C11 C12 C13 C20 C21 C22 C23
 replace x0 := x0.below hb
 replace x1 := x1.below hb
 replace x2 := x2.below hb
 have hw2_ := bt hw1_ hb
 clear hb hw1_
 obtain ⟨C00, C01, C02, C03⟩ := x0.cs
 obtain ⟨C10, C11, C12, C13⟩ := x1.cs
 obtain ⟨C20, C21, C22, C23⟩ := x2.cs
 go_wp2_with fail
 refine (small_yes (N := 6) (Ja2.out.below hw2_) (by decide)).mono ?_
 rintro e w4 ⟨rfl, hb⟩
 clear C00 C01 C02 C03 C10 C11 C12 C13 C20 C21 C22 C23
 replace x0 := x0.below hb
 replace x1 := x1.below hb
 replace x2 := x2.below hb
 have hw3_ := bt hw2_ hb
 clear hb hw2_
 obtain ⟨C00, C01, C02, C03⟩ := x0.cs
 obtain ⟨C10, C11, C12, C13⟩ := x1.cs
 obtain ⟨C20, C21, C22, C23⟩ := x2.cs
 go_wp2_with fail
 refine (QSim_e (Ja0.out.below hw3_) (Ja1.out.below hw3_) HQ.out).mono ?_
 rintro e w5 ⟨s, rfl, hb⟩
 clear C00 C01 C02 C03 C10 C11 C12 C13 C20 C21 C22 C23
 replace x0 := x0.below hb
 replace x1 := x1.below hb
 replace x2 := x2.below hb
 have hw4_ := bt hw3_ hb
 clear hb hw3_
 have x0a := x0.alloc (.cells #[.bool s.n, .slice s.A s.l.length s.c, .bool s.m, .slice s.B s.k.length s.d] 35)
 obtain ⟨C00, C01, C02, C03⟩ := x0a.cs
 have x1a := x1.alloc (.cells #[.bool s.n, .slice s.A s.l.length s.c, .bool s.m, .slice s.B s.k.length s.d] 35)
 obtain ⟨C10, C11, C12, C13⟩ := x1a.cs
 have x2a := x2.alloc (.cells #[.bool s.n, .slice s.A s.l.length s.c, .bool s.m, .slice s.B s.k.length s.d] 35)
 obtain ⟨C20, C21, C22, C23⟩ := x2a.cs
 go_wp2_with fail
 clear C00 C01 C02 C03 x0a C10 C11 C12 C13 x1a C20 C21 C22 C23 x2a
 obtain ⟨w6, hw, xs, hb⟩ := nb4 w5 s.n s.A s.c s.l s.m s.B s.d s.k
 obtain ⟨xsp, hxsp⟩ : ∃ p, p = w5.heap.size := ⟨_, rfl⟩
 rw [← hxsp] at xs ⊢
 have xsg : w.heap.size ≤ xsp := by have := hw4_.size; omega
 rw [← hw]
 clear hw
 have Nx0_xs : Hid (w.heap.size < xsp) := Hi (by have := x0.lt; omega)
 have Nx1_xs : Hid (w.heap.size + 1 < xsp) := Hi (by have := x1.lt; omega)
 have Nx2_xs : Hid (w.heap.size + 1 + 1 < xsp) := Hi (by have := x2.lt; omega)
 clear hxsp
 replace x0 := x0.below hb
 replace x1 := x1.below hb
 replace x2 := x2.below hb
 have hw5_ := bt hw4_ hb
 clear hb hw4_
 refine (QCmp_q (Ja0.out.below hw5_) (Ja1.out.below hw5_) (by decide) (by decide)).mono ?_
 rintro e w7 ⟨rfl, hb⟩
 replace x0 := x0.below hb
 replace x1 := x1.below hb
 replace x2 := x2.below hb
 replace xs := xs.below hb
 have hw6_ := bt hw5_ hb
 clear hb hw5_
 rw [cmpQ_gt HQ.out]
 obtain ⟨C00, C01, C02, C03⟩ := x0.cs
 obtain ⟨C10, C11, C12, C13⟩ := x1.cs
 obtain ⟨C20, C21, C22, C23⟩ := x2.cs
 obtain ⟨Cs0, Cs1, Cs2, Cs3⟩ := xs.cs
 go_wp2_with fail
 refine (sane2 _ (HTn.out.below hw6_)).mono ?_
 rintro e1 wz ⟨rfl, hb⟩
 clear C00 C01 C02 C03 C10 C11 C12 C13 C20 C21 C22 C23 Cs0 Cs1 Cs2 Cs3
 replace x0 := x0.below hb
 replace x1 := x1.below hb
 replace x2 := x2.below hb
 replace xs := xs.below hb
 have hw7_ := bt hw6_ hb
 clear hb hw6_
 go_wp2_with fail
 go_ret
 exact ⟨rfl, hw7_⟩
theorem RatSimplest_o1 {a0 a1 a2 : QW} {q0 q1 q2 : Rat} (hT : Tens w) (j0 : QV 6 w a0 q0) (j1 : QV 6 w a1 q1) (j2 : QV 6 w a2 q2) (hq : q0 ≤ q1) (ho : q2 < q0) :
  Calls Tryz.prog 7 #[.agg #[.bool a0.n, .slice a0.A a0.l.length a0.c, .bool a0.m, .slice a0.B a0.k.length a0.d], .agg #[.bool a1.n, .slice a1.A a1.l.length a1.c, .bool a1.m, .slice a1.B a1.k.length a1.d], .agg #[.bool a2.n, .slice a2.A a2.l.length a2.c, .bool a2.m, .slice a2.B a2.k.length a2.d]] w fun e w' => e = .returned (.bool true) ∧ Below w.heap.size w w' := by
 have HTn := Hi hT
 clear hT
 have Ja0 := Hi j0
 clear j0
 have Ja1 := Hi j1
 clear j1
 have Ja2 := Hi j2
 clear j2
 have HQ := Hi hq
 have HO := Hi ho
 clear hq ho
 obtain ⟨W1, hW1, hw1, x0, x1, x2⟩ := hdQQQ w a0.n a0.A a0.c a0.l a0.m a0.B a0.d a0.k a1.n a1.A a1.c a1.l a1.m a1.B a1.d a1.k a2.n a2.A a2.c a2.l a2.m a2.B a2.d a2.k
 go_enter Tryz.func7, Tryz.ntmps7
 go_wp2_with fail
 rw [← hW1]
 clear hW1
 refine (small_yes (N := 6) (Ja0.out.below hw1) (by decide)).mono ?_
 rintro e w2 ⟨rfl, hb⟩
 replace x0 := x0.below hb
 replace x1 := x1.below hb
 replace x2 := x2.below hb
 have hw1_ := bt hw1 hb
 clear hb hw1
 obtain ⟨C00, C01, C02, C03⟩ := x0.cs
 obtain ⟨C10, C11, C12, C13⟩ := x1.cs
 obtain ⟨C20, C21, C22, C23⟩ := x2.cs
 go_wp2_with fail
 refine (small_yes (N := 6) (Ja1.out.below hw1_) (by decide)).mono ?_
 rintro e w3 ⟨rfl, hb⟩
 clear C00 C01 C02 C03 C10 C11 C12 C13 C20 C21 C22 C23
 replace x0 := x0.below hb
 replace x1 := x1.below hb
 replace x2 := x2.below hb
 have hw2_ := bt hw1_ hb
 clear hb hw1_
 obtain ⟨C00, C01, C02, C03⟩ := x0.cs
 obtain ⟨C10, C11, C12, C13⟩ := x1.cs
 obtain ⟨C20, C21, C22, C23⟩ := x2.cs
 go_wp2_with fail
 refine (small_yes (N := 6) (Ja2.out.below hw2_) (by decide)).mono ?_
 rintro e w4 ⟨rfl, hb⟩
 clear C00 C01 C02 C03 C10 C11 C12 C13 C20 C21 C22 C23
 replace x0 := x0.below hb
 replace x1 := x1.below hb
 replace x2 := x2.below hb
 have hw3_ := bt hw2_ hb
 clear hb hw2_
 obtain ⟨C00, C01, C02, C03⟩ := x0.cs
 obtain ⟨C10, C11, C12, C13⟩ := x1.cs
 obtain ⟨C20, C21, C22, C23⟩ := x2.cs
 go_wp2_with fail
 refine (QSim_q (Ja0.out.below hw3_) (Ja1.out.below hw3_) HQ.out).mono ?_
 rintro e w5 ⟨qs, hsim, s, rfl, hs, hb⟩
 clear C00 C01 C02 C03 C10 C11 C12 C13 C20 C21 C22 C23
 replace x0 := x0.below hb
 replace x1 := x1.below hb
 replace x2 := x2.below hb
 have hw4_ := bt hw3_ hb
 clear hb hw3_
 have Js := Hi hs
 have HS := Hi hsim
 clear hs hsim
 have x0a := x0.alloc (.cells #[.bool s.n, .slice s.A s.l.length s.c, .bool s.m, .slice s.B s.k.length s.d] 35)
 obtain ⟨C00, C01, C02, C03⟩ := x0a.cs
 have x1a := x1.alloc (.cells #[.bool s.n, .slice s.A s.l.length s.c, .bool s.m, .slice s.B s.k.length s.d] 35)
 obtain ⟨C10, C11, C12, C13⟩ := x1a.cs
 have x2a := x2.alloc (.cells #[.bool s.n, .slice s.A s.l.length s.c, .bool s.m, .slice s.B s.k.length s.d] 35)
 obtain ⟨C20, C21, C22, C23⟩ := x2a.cs
 go_wp2_with fail
 clear C00 C01 C02 C03 x0a C10 C11 C12 C13 x1a C20 C21 C22 C23 x2a
 obtain ⟨w6, hw, xs, hb⟩ := nb4 w5 s.n s.A s.c s.l s.m s.B s.d s.k
 obtain ⟨xsp, hxsp⟩ : ∃ p, p = w5.heap.size := ⟨_, rfl⟩
 rw [← hxsp] at xs ⊢
 have xsg : w.heap.size ≤ xsp := by have := hw4_.size; omega
 rw [← hw]
 clear hw
 have Nx0_xs : Hid (w.heap.size < xsp) := Hi (by have := x0.lt; omega)
 have Nx1_xs : Hid (w.heap.size + 1 < xsp) := Hi (by have := x1.lt; omega)
 have Nx2_xs : Hid (w.heap.size + 1 + 1 < xsp) := Hi (by have := x2.lt; omega)
 clear hxsp
 replace x0 := x0.below hb
 replace x1 := x1.below hb
 replace x2 := x2.below hb
 replace Js := Hi (Js.out.below hb)
 have hw5_ := bt hw4_ hb
 clear hb hw4_
 refine (QCmp_q (Ja0.out.below hw5_) (Ja1.out.below hw5_) (by decide) (by decide)).mono ?_
 rintro e w7 ⟨rfl, hb⟩
 replace x0 := x0.below hb
 replace x1 := x1.below hb
 replace x2 := x2.below hb
 replace xs := xs.below hb
 replace Js := Hi (Js.out.below hb)
 have hw6_ := bt hw5_ hb
 clear hb hw5_
 have HX := Hi (cmpQ_le HQ.out)
 obtain ⟨v0, hv0⟩ : ∃ v, v = cmpQ q0 q1 := ⟨_, rfl⟩
 rw [← hv0] at HX ⊢
 clear hv0
 have hX := HX.out
 obtain ⟨C00, C01, C02, C03⟩ := x0.cs
 obtain ⟨C10, C11, C12, C13⟩ := x1.cs
 obtain ⟨C20, C21, C22, C23⟩ := x2.cs
 obtain ⟨Cs0, Cs1, Cs2, Cs3⟩ := xs.cs
 go_wp2_with fail
 refine (RQIs_q Js.out (by decide)).mono ?_
 rintro e w8 ⟨rfl, hb⟩
 clear C00 C01 C02 C03 C10 C11 C12 C13 C20 C21 C22 C23 Cs0 Cs1 Cs2 Cs3
 replace x0 := x0.below hb
 replace x1 := x1.below hb
 replace x2 := x2.below hb
 replace xs := xs.below hb
 replace Js := Hi (Js.out.below hb)
 have hw7_ := bt hw6_ hb
 clear hb hw6_
 obtain ⟨C00, C01, C02, C03⟩ := x0.cs
 obtain ⟨C10, C11, C12, C13⟩ := x1.cs
 obtain ⟨C20, C21, C22, C23⟩ := x2.cs
 obtain ⟨Cs0, Cs1, Cs2, Cs3⟩ := xs.cs
 go_wp2_with fail
 refine (QCmp_q (Ja0.out.below hw7_) Js.out (by decide) (by decide)).mono ?_
 rintro e w9 ⟨rfl, hb⟩
 clear C00 C01 C02 C03 C10 C11 C12 C13 C20 C21 C22 C23 Cs0 Cs1 Cs2 Cs3
 replace x0 := x0.below hb
 replace x1 := x1.below hb
 replace x2 := x2.below hb
 replace xs := xs.below hb
 replace Js := Hi (Js.out.below hb)
 have hw8_ := bt hw7_ hb
 clear hb hw7_
 have hY := cmpQ_le HS.out.lo
 obtain ⟨v1, hv1⟩ : ∃ v, v = cmpQ q0 qs := ⟨_, rfl⟩
 rw [← hv1] at hY ⊢
 clear hv1
 obtain ⟨C00, C01, C02, C03⟩ := x0.cs
 obtain ⟨C10, C11, C12, C13⟩ := x1.cs
 obtain ⟨C20, C21, C22, C23⟩ := x2.cs
 obtain ⟨Cs0, Cs1, Cs2, Cs3⟩ := xs.cs
 go_wp2_with fail
 refine (QCmp_q Js.out (Ja1.out.below hw8_) (by decide) (by decide)).mono ?_
 rintro e w10 ⟨rfl, hb⟩
 clear C00 C01 C02 C03 C10 C11 C12 C13 C20 C21 C22 C23 Cs0 Cs1 Cs2 Cs3
 replace x0 := x0.below hb
 replace x1 := x1.below hb
 replace x2 := x2.below hb
 replace xs := xs.below hb
 replace Js := Hi (Js.out.below hb)
 have hw9_ := bt hw8_ hb
 clear hb hw8_
 have hZ := cmpQ_le HS.out.hi
 obtain ⟨v2, hv2⟩ : ∃ v, v = cmpQ qs q1 := ⟨_, rfl⟩
 rw [← hv2] at hZ ⊢
 clear hv2
 obtain ⟨C00, C01, C02, C03⟩ := x0.cs
 obtain ⟨C10, C11, C12, C13⟩ := x1.cs
 obtain ⟨C20, C21, C22, C23⟩ := x2.cs
 obtain ⟨Cs0, Cs1, Cs2, Cs3⟩ := xs.cs
 go_wp2_with fail
 refine (QCmp_q (Ja0.out.below hw9_) (Ja2.out.below hw9_) (by decide) (by decide)).mono ?_
 rintro e w11 ⟨rfl, hb⟩
 clear C00 C01 C02 C03 C10 C11 C12 C13 C20 C21 C22 C23 Cs0 Cs1 Cs2 Cs3
 replace x0 := x0.below hb
 replace x1 := x1.below hb
 replace x2 := x2.below hb
 replace xs := xs.below hb
 replace Js := Hi (Js.out.below hb)
 have hw10_ := bt hw9_ hb
 clear hb hw9_
 rw [cmpQ_gt HO.out]
 obtain ⟨C00, C01, C02, C03⟩ := x0.cs
 obtain ⟨C10, C11, C12, C13⟩ := x1.cs
 obtain ⟨C20, C21, C22, C23⟩ := x2.cs
 obtain ⟨Cs0, Cs1, Cs2, Cs3⟩ := xs.cs
 go_wp2_with fail
 refine (sane2 _ (HTn.out.below hw10_)).mono ?_
 rintro e1 wz ⟨rfl, hb⟩
 clear C00 C01 C02 C03 C10 C11 C12 C13 C20 C21 C22 C23 Cs0 Cs1 Cs2 Cs3
 replace x0 := x0.below hb
 replace x1 := x1.below hb
 replace x2 := x2.below hb
 replace xs := xs.below hb
 replace Js := Hi (Js.out.below hb)
 have hw11_ := bt hw10_ hb
 clear hb hw10_
 go_wp2_with fail
 go_ret
 exact ⟨rfl, hw11_⟩
theorem RatSimplest_o2 {a0 a1 a2 : QW} {q0 q1 q2 : Rat} (hT : Tens w) (j0 : QV 6 w a0 q0) (j1 : QV 6 w a1 q1) (j2 : QV 6 w a2 q2) (hq : q0 ≤ q1) (hc : q0 ≤ q2) (ho : q1 < q2) :
  Calls Tryz.prog 7 #[.agg #[.bool a0.n, .slice a0.A a0.l.length a0.c, .bool a0.m, .slice a0.B a0.k.length a0.d], .agg #[.bool a1.n, .slice a1.A a1.l.length a1.c, .bool a1.m, .slice a1.B a1.k.length a1.d], .agg #[.bool a2.n, .slice a2.A a2.l.length a2.c, .bool a2.m, .slice a2.B a2.k.length a2.d]] w fun e w' => e = .returned (.bool true) ∧ Below w.heap.size w w' := by
 have HTn := Hi hT
 clear hT
 have Ja0 := Hi j0
 clear j0
 have Ja1 := Hi j1
 clear j1
 have Ja2 := Hi j2
 clear j2
 have HQ := Hi hq
 have HC := Hi hc
 have HO := Hi ho
 clear hq hc ho
 obtain ⟨W1, hW1, hw1, x0, x1, x2⟩ := hdQQQ w a0.n a0.A a0.c a0.l a0.m a0.B a0.d a0.k a1.n a1.A a1.c a1.l a1.m a1.B a1.d a1.k a2.n a2.A a2.c a2.l a2.m a2.B a2.d a2.k
 go_enter Tryz.func7, Tryz.ntmps7
 go_wp2_with fail
 rw [← hW1]
 clear hW1
 refine (small_yes (N := 6) (Ja0.out.below hw1) (by decide)).mono ?_
 rintro e w2 ⟨rfl, hb⟩
 replace x0 := x0.below hb
 replace x1 := x1.below hb
 replace x2 := x2.below hb
 have hw1_ := bt hw1 hb
 clear hb hw1
 obtain ⟨C00, C01, C02, C03⟩ := x0.cs
 obtain ⟨C10, C11, C12, C13⟩ := x1.cs
 obtain ⟨C20, C21, C22, C23⟩ := x2.cs
 go_wp2_with fail
 refine (small_yes (N := 6) (Ja1.out.below hw1_) (by decide)).mono ?_
 rintro e w3 ⟨rfl, hb⟩
 clear C00 C01 C02 C03 C10 C11 C12 C13 C20 C21 C22 C23
 replace x0 := x0.below hb
 replace x1 := x1.below hb
 replace x2 := x2.below hb
 have hw2_ := bt hw1_ hb
 clear hb hw1_
 obtain ⟨C00, C01, C02, C03⟩ := x0.cs
 obtain ⟨C10, C11, C12, C13⟩ := x1.cs
 obtain ⟨C20, C21, C22, C23⟩ := x2.cs
 go_wp2_with fail
 refine (small_yes (N := 6) (Ja2.out.below hw2_) (by decide)).mono ?_
 rintro e w4 ⟨rfl, hb⟩
 clear C00 C01 C02 C03 C10 C11 C12 C13 C20 C21 C22 C23
 replace x0 := x0.below hb
 replace x1 := x1.below hb
 replace x2 := x2.below hb
 have hw3_ := bt hw2_ hb
 clear hb hw2_
 obtain ⟨C00, C01, C02, C03⟩ := x0.cs
 obtain ⟨C10, C11, C12, C13⟩ := x1.cs
 obtain ⟨C20, C21, C22, C23⟩ := x2.cs
 go_wp2_with fail
 refine (QSim_q (Ja0.out.below hw3_) (Ja1.out.below hw3_) HQ.out).mono ?_
 rintro e w5 ⟨qs, hsim, s, rfl, hs, hb⟩
 clear C00 C01 C02 C03 C10 C11 C12 C13 C20 C21 C22 C23
 replace x0 := x0.below hb
 replace x1 := x1.below hb
 replace x2 := x2.below hb
 have hw4_ := bt hw3_ hb
 clear hb hw3_
 have Js := Hi hs
 have HS := Hi hsim
 clear hs hsim
 have x0a := x0.alloc (.cells #[.bool s.n, .slice s.A s.l.length s.c, .bool s.m, .slice s.B s.k.length s.d] 35)
 obtain ⟨C00, C01, C02, C03⟩ := x0a.cs
 have x1a := x1.alloc (.cells #[.bool s.n, .slice s.A s.l.length s.c, .bool s.m, .slice s.B s.k.length s.d] 35)
 obtain ⟨C10, C11, C12, C13⟩ := x1a.cs
 have x2a := x2.alloc (.cells #[.bool s.n, .slice s.A s.l.length s.c, .bool s.m, .slice s.B s.k.length s.d] 35)
 obtain ⟨C20, C21, C22, C23⟩ := x2a.cs
 go_wp2_with fail
 clear C00 C01 C02 C03 x0a C10 C11 C12 C13 x1a C20 C21 C22 C23 x2a
 obtain ⟨w6, hw, xs, hb⟩ := nb4 w5 s.n s.A s.c s.l s.m s.B s.d s.k
 obtain ⟨xsp, hxsp⟩ : ∃ p, p = w5.heap.size := ⟨_, rfl⟩
 rw [← hxsp] at xs ⊢
 have xsg : w.heap.size ≤ xsp := by have := hw4_.size; omega
 rw [← hw]
 clear hw
 have Nx0_xs : Hid (w.heap.size < xsp) := Hi (by have := x0.lt; omega)
 have Nx1_xs : Hid (w.heap.size + 1 < xsp) := Hi (by have := x1.lt; omega)
 have Nx2_xs : Hid (w.heap.size + 1 + 1 < xsp) := Hi (by have := x2.lt; omega)
 clear hxsp
 replace x0 := x0.below hb
 replace x1 := x1.below hb
 replace x2 := x2.below hb
 replace Js := Hi (Js.out.below hb)
 have hw5_ := bt hw4_ hb
 clear hb hw4_
 refine (QCmp_q (Ja0.out.below hw5_) (Ja1.out.below hw5_) (by decide) (by decide)).mono ?_
 rintro e w7 ⟨rfl, hb⟩
 replace x0 := x0.below hb
 replace x1 := x1.below hb
 replace x2 := x2.below hb
 replace xs := xs.below hb
 replace Js := Hi (Js.out.below hb)
 have hw6_ := bt hw5_ hb
 clear hb hw5_
 have HX := Hi (cmpQ_le HQ.out)
 obtain ⟨v0, hv0⟩ : ∃ v, v = cmpQ q0 q1 := ⟨_, rfl⟩
 rw [← hv0] at HX ⊢
 clear hv0
 have hX := HX.out
 obtain ⟨C00, C01, C02, C03⟩ := x0.cs
 obtain ⟨C10, C11, C12, C13⟩ := x1.cs
 obtain ⟨C20, C21, C22, C23⟩ := x2.cs
 obtain ⟨Cs0, Cs1, Cs2, Cs3⟩ := xs.cs
 go_wp2_with fail
 refine (RQIs_q Js.out (by decide)).mono ?_
 rintro e w8 ⟨rfl, hb⟩
 clear C00 C01 C02 C03 C10 C11 C12 C13 C20 C21 C22 C23 Cs0 Cs1 Cs2 Cs3
 replace x0 := x0.below hb
 replace x1 := x1.below hb
 replace x2 := x2.below hb
 replace xs := xs.below hb
 replace Js := Hi (Js.out.below hb)
 have hw7_ := bt hw6_ hb
 clear hb hw6_
 obtain ⟨C00, C01, C02, C03⟩ := x0.cs
 obtain ⟨C10, C11, C12, C13⟩ := x1.cs
 obtain ⟨C20, C21, C22, C23⟩ := x2.cs
 obtain ⟨Cs0, Cs1, Cs2, Cs3⟩ := xs.cs
 go_wp2_with fail
 refine (QCmp_q (Ja0.out.below hw7_) Js.out (by decide) (by decide)).mono ?_
 rintro e w9 ⟨rfl, hb⟩
 clear C00 C01 C02 C03 C10 C11 C12 C13 C20 C21 C22 C23 Cs0 Cs1 Cs2 Cs3
 replace x0 := x0.below hb
 replace x1 := x1.below hb
 replace x2 := x2.below hb
 replace xs := xs.below hb
 replace Js := Hi (Js.out.below hb)
 have hw8_ := bt hw7_ hb
 clear hb hw7_
 have hY := cmpQ_le HS.out.lo
 obtain ⟨v1, hv1⟩ : ∃ v, v = cmpQ q0 qs := ⟨_, rfl⟩
 rw [← hv1] at hY ⊢
 clear hv1
 obtain ⟨C00, C01, C02, C03⟩ := x0.cs
 obtain ⟨C10, C11, C12, C13⟩ := x1.cs
 obtain ⟨C20, C21, C22, C23⟩ := x2.cs
 obtain ⟨Cs0, Cs1, Cs2, Cs3⟩ := xs.cs
 go_wp2_with fail
 refine (QCmp_q Js.out (Ja1.out.below hw8_) (by decide) (by decide)).mono ?_
 rintro e w10 ⟨rfl, hb⟩
 clear C00 C01 C02 C03 C10 C11 C12 C13 C20 C21 C22 C23 Cs0 Cs1 Cs2 Cs3
 replace x0 := x0.below hb
 replace x1 := x1.below hb
 replace x2 := x2.below hb
 replace xs := xs.below hb
 replace Js := Hi (Js.out.below hb)
 have hw9_ := bt hw8_ hb
 clear hb hw8_
 have hZ := cmpQ_le HS.out.hi
 obtain ⟨v2, hv2⟩ : ∃ v, v = cmpQ qs q1 := ⟨_, rfl⟩
 rw [← hv2] at hZ ⊢
 clear hv2
 obtain ⟨C00, C01, C02, C03⟩ := x0.cs
 obtain ⟨C10, C11, C12, C13⟩ := x1.cs
 obtain ⟨C20, C21, C22, C23⟩ := x2.cs
 obtain ⟨Cs0, Cs1, Cs2, Cs3⟩ := xs.cs
 go_wp2_with fail
 refine (QCmp_q (Ja0.out.below hw9_) (Ja2.out.below hw9_) (by decide) (by decide)).mono ?_
 rintro e w11 ⟨rfl, hb⟩
 clear C00 C01 C02 C03 C10 C11 C12 C13 C20 C21 C22 C23 Cs0 Cs1 Cs2 Cs3
 replace x0 := x0.below hb
 replace x1 := x1.below hb
 replace x2 := x2.below hb
 replace xs := xs.below hb
 replace Js := Hi (Js.out.below hb)
 have hw10_ := bt hw9_ hb
 clear hb hw9_
 have hv3 := cmpQ_le HC.out
 obtain ⟨v3, hev3⟩ : ∃ v, v = cmpQ q0 q2 := ⟨_, rfl⟩
 rw [← hev3] at hv3 ⊢
 clear hev3
 obtain ⟨C00, C01, C02, C03⟩ := x0.cs
 obtain ⟨C10, C11, C12, C13⟩ := x1.cs
 obtain ⟨C20, C21, C22, C23⟩ := x2.cs
 obtain ⟨Cs0, Cs1, Cs2, Cs3⟩ := xs.cs
 go_wp2_with fail
 refine (QCmp_q (Ja2.out.below hw10_) (Ja1.out.below hw10_) (by decide) (by decide)).mono ?_
 rintro e w12 ⟨rfl, hb⟩
 clear C00 C01 C02 C03 C10 C11 C12 C13 C20 C21 C22 C23 Cs0 Cs1 Cs2 Cs3
 replace x0 := x0.below hb
 replace x1 := x1.below hb
 replace x2 := x2.below hb
 replace xs := xs.below hb
 replace Js := Hi (Js.out.below hb)
 have hw11_ := bt hw10_ hb
 clear hb hw10_
 rw [cmpQ_gt HO.out]
 obtain ⟨C00, C01, C02, C03⟩ := x0.cs
 obtain ⟨C10, C11, C12, C13⟩ := x1.cs
 obtain ⟨C20, C21, C22, C23⟩ := x2.cs
 obtain ⟨Cs0, Cs1, Cs2, Cs3⟩ := xs.cs
 go_wp2_with fail
 refine (sane2 _ (HTn.out.below hw11_)).mono ?_
 rintro e1 wz ⟨rfl, hb⟩
 clear C00 C01 C02 C03 C10 C11 C12 C13 C20 C21 C22 C23 Cs0 Cs1 Cs2 Cs3
 replace x0 := x0.below hb
 replace x1 := x1.below hb
 replace x2 := x2.below hb
 replace xs := xs.below hb
 replace Js := Hi (Js.out.below hb)
 have hw12_ := bt hw11_ hb
 clear hb hw11_
 go_wp2_with fail
 go_ret
 exact ⟨rfl, hw12_⟩
theorem RatSimplest_i {a0 a1 a2 : QW} {q0 q1 q2 : Rat} (hT : Tens w) (j0 : QV 6 w a0 q0) (j1 : QV 6 w a1 q1) (j2 : QV 6 w a2 q2) (hq : q0 ≤ q1) (hc : q0 ≤ q2 ∧ q2 ≤ q1) :
  Calls Tryz.prog 7 #[.agg #[.bool a0.n, .slice a0.A a0.l.length a0.c, .bool a0.m, .slice a0.B a0.k.length a0.d], .agg #[.bool a1.n, .slice a1.A a1.l.length a1.c, .bool a1.m, .slice a1.B a1.k.length a1.d], .agg #[.bool a2.n, .slice a2.A a2.l.length a2.c, .bool a2.m, .slice a2.B a2.k.length a2.d]] w fun e w' => e = .returned (.bool true) ∧ Below w.heap.size w w' := by
 have HTn := Hi hT
 clear hT
 have Ja0 := Hi j0
 clear j0
 have Ja1 := Hi j1
 clear j1
 have Ja2 := Hi j2
 clear j2
 have HQ := Hi hq
 have HC := Hi hc
 clear hq hc
 obtain ⟨W1, hW1, hw1, x0, x1, x2⟩ := hdQQQ w a0.n a0.A a0.c a0.l a0.m a0.B a0.d a0.k a1.n a1.A a1.c a1.l a1.m a1.B a1.d a1.k a2.n a2.A a2.c a2.l a2.m a2.B a2.d a2.k
 go_enter Tryz.func7, Tryz.ntmps7
 go_wp2_with fail
 rw [← hW1]
 clear hW1
 refine (small_yes (N := 6) (Ja0.out.below hw1) (by decide)).mono ?_
 rintro e w2 ⟨rfl, hb⟩
 replace x0 := x0.below hb
 replace x1 := x1.below hb
 replace x2 := x2.below hb
 have hw1_ := bt hw1 hb
 clear hb hw1
 obtain ⟨C00, C01, C02, C03⟩ := x0.cs
 obtain ⟨C10, C11, C12, C13⟩ := x1.cs
 obtain ⟨C20, C21, C22, C23⟩ := x2.cs
 go_wp2_with fail
 refine (small_yes (N := 6) (Ja1.out.below hw1_) (by decide)).mono ?_
 rintro e w3 ⟨rfl, hb⟩
 clear C00 C01 C02 C03 C10 C11 C12 C13 C20 C21 C22 C23
 replace x0 := x0.below hb
 replace x1 := x1.below hb
 replace x2 := x2.below hb
 have hw2_ := bt hw1_ hb
 clear hb hw1_
 obtain ⟨C00, C01, C02, C03⟩ := x0.cs
 obtain ⟨C10, C11, C12, C13⟩ := x1.cs
 obtain ⟨C20, C21, C22, C23⟩ := x2.cs
 go_wp2_with fail
 refine (small_yes (N := 6) (Ja2.out.below hw2_) (by decide)).mono ?_
 rintro e w4 ⟨rfl, hb⟩
 clear C00 C01 C02 C03 C10 C11 C12 C13 C20 C21 C22 C23
 replace x0 := x0.below hb
 replace x1 := x1.below hb
 replace x2 := x2.below hb
 have hw3_ := bt hw2_ hb
 clear hb hw2_
 obtain ⟨C00, C01, C02, C03⟩ := x0.cs
 obtain ⟨C10, C11, C12, C13⟩ := x1.cs
 obtain ⟨C20, C21, C22, C23⟩ := x2.cs
 go_wp2_with fail
 refine (QSim_q (Ja0.out.below hw3_) (Ja1.out.below hw3_) HQ.out).mono ?_
 rintro e w5 ⟨qs, hsim, s, rfl, hs, hb⟩
 clear C00 C01 C02 C03 C10 C11 C12 C13 C20 C21 C22 C23
 replace x0 := x0.below hb
 replace x1 := x1.below hb
 replace x2 := x2.below hb
 have hw4_ := bt hw3_ hb
 clear hb hw3_
 have Js := Hi hs
 have HS := Hi hsim
 clear hs hsim
 have x0a := x0.alloc (.cells #[.bool s.n, .slice s.A s.l.length s.c, .bool s.m, .slice s.B s.k.length s.d] 35)
 obtain ⟨C00, C01, C02, C03⟩ := x0a.cs
 have x1a := x1.alloc (.cells #[.bool s.n, .slice s.A s.l.length s.c, .bool s.m, .slice s.B s.k.length s.d] 35)
 obtain ⟨C10, C11, C12, C13⟩ := x1a.cs
 have x2a := x2.alloc (.cells #[.bool s.n, .slice s.A s.l.length s.c, .bool s.m, .slice s.B s.k.length s.d] 35)
 obtain ⟨C20, C21, C22, C23⟩ := x2a.cs
 go_wp2_with fail
 clear C00 C01 C02 C03 x0a C10 C11 C12 C13 x1a C20 C21 C22 C23 x2a
 obtain ⟨w6, hw, xs, hb⟩ := nb4 w5 s.n s.A s.c s.l s.m s.B s.d s.k
 obtain ⟨xsp, hxsp⟩ : ∃ p, p = w5.heap.size := ⟨_, rfl⟩
 rw [← hxsp] at xs ⊢
 have xsg : w.heap.size ≤ xsp := by have := hw4_.size; omega
 rw [← hw]
 clear hw
 have Nx0_xs : Hid (w.heap.size < xsp) := Hi (by have := x0.lt; omega)
 have Nx1_xs : Hid (w.heap.size + 1 < xsp) := Hi (by have := x1.lt; omega)
 have Nx2_xs : Hid (w.heap.size + 1 + 1 < xsp) := Hi (by have := x2.lt; omega)
 clear hxsp
 replace x0 := x0.below hb
 replace x1 := x1.below hb
 replace x2 := x2.below hb
 replace Js := Hi (Js.out.below hb)
 have hw5_ := bt hw4_ hb
 clear hb hw4_
 refine (QCmp_q (Ja0.out.below hw5_) (Ja1.out.below hw5_) (by decide) (by decide)).mono ?_
 rintro e w7 ⟨rfl, hb⟩
 replace x0 := x0.below hb
 replace x1 := x1.below hb
 replace x2 := x2.below hb
 replace xs := xs.below hb
 replace Js := Hi (Js.out.below hb)
 have hw6_ := bt hw5_ hb
 clear hb hw5_
 have HX := Hi (cmpQ_le HQ.out)
 obtain ⟨v0, hv0⟩ : ∃ v, v = cmpQ q0 q1 := ⟨_, rfl⟩
 rw [← hv0] at HX ⊢
 clear hv0
 have hX := HX.out
 obtain ⟨C00, C01, C02, C03⟩ := x0.cs
 obtain ⟨C10, C11, C12, C13⟩ := x1.cs
 obtain ⟨C20, C21, C22, C23⟩ := x2.cs
 obtain ⟨Cs0, Cs1, Cs2, Cs3⟩ := xs.cs
 go_wp2_with fail
 refine (RQIs_q Js.out (by decide)).mono ?_
 rintro e w8 ⟨rfl, hb⟩
 clear C00 C01 C02 C03 C10 C11 C12 C13 C20 C21 C22 C23 Cs0 Cs1 Cs2 Cs3
 replace x0 := x0.below hb
 replace x1 := x1.below hb
 replace x2 := x2.below hb
 replace xs := xs.below hb
 replace Js := Hi (Js.out.below hb)
 have hw7_ := bt hw6_ hb
 clear hb hw6_
 obtain ⟨C00, C01, C02, C03⟩ := x0.cs
 obtain ⟨C10, C11, C12, C13⟩ := x1.cs
 obtain ⟨C20, C21, C22, C23⟩ := x2.cs
 obtain ⟨Cs0, Cs1, Cs2, Cs3⟩ := xs.cs
 go_wp2_with fail
 refine (QCmp_q (Ja0.out.below hw7_) Js.out (by decide) (by decide)).mono ?_
 rintro e w9 ⟨rfl, hb⟩
 clear C00 C01 C02 C03 C10 C11 C12 C13 C20 C21 C22 C23 Cs0 Cs1 Cs2 Cs3
 replace x0 := x0.below hb
 replace x1 := x1.below hb
 replace x2 := x2.below hb
 replace xs := xs.below hb
 replace Js := Hi (Js.out.below hb)
 have hw8_ := bt hw7_ hb
 clear hb hw7_
 have hY := cmpQ_le HS.out.lo
 obtain ⟨v1, hv1⟩ : ∃ v, v = cmpQ q0 qs := ⟨_, rfl⟩
 rw [← hv1] at hY ⊢
 clear hv1
 obtain ⟨C00, C01, C02, C03⟩ := x0.cs
 obtain ⟨C10, C11, C12, C13⟩ := x1.cs
 obtain ⟨C20, C21, C22, C23⟩ := x2.cs
 obtain ⟨Cs0, Cs1, Cs2, Cs3⟩ := xs.cs
 go_wp2_with fail
 refine (QCmp_q Js.out (Ja1.out.below hw8_) (by decide) (by decide)).mono ?_
 rintro e w10 ⟨rfl, hb⟩
 clear C00 C01 C02 C03 C10 C11 C12 C13 C20 C21 C22 C23 Cs0 Cs1 Cs2 Cs3
 replace x0 := x0.below hb
 replace x1 := x1.below hb
 replace x2 := x2.below hb
 replace xs := xs.below hb
 replace Js := Hi (Js.out.below hb)
 have hw9_ := bt hw8_ hb
 clear hb hw8_
 have hZ := cmpQ_le HS.out.hi
 obtain ⟨v2, hv2⟩ : ∃ v, v = cmpQ qs q1 := ⟨_, rfl⟩
 rw [← hv2] at hZ ⊢
 clear hv2
 obtain ⟨C00, C01, C02, C03⟩ := x0.cs
 obtain ⟨C10, C11, C12, C13⟩ := x1.cs
 obtain ⟨C20, C21, C22, C23⟩ := x2.cs
 obtain ⟨Cs0, Cs1, Cs2, Cs3⟩ := xs.cs
 go_wp2_with fail
 refine (QCmp_q (Ja0.out.below hw9_) (Ja2.out.below hw9_) (by decide) (by decide)).mono ?_
 rintro e w11 ⟨rfl, hb⟩
 clear C00 C01 C02 C03 C10 C11 C12 C13 C20 C21 C22 C23 Cs0 Cs1 Cs2 Cs3
 replace x0 := x0.below hb
 replace x1 := x1.below hb
 replace x2 := x2.below hb
 replace xs := xs.below hb
 replace Js := Hi (Js.out.below hb)
 have hw10_ := bt hw9_ hb
 clear hb hw9_
 have hv3 := cmpQ_le HC.out.1
 obtain ⟨v3, hev3⟩ : ∃ v, v = cmpQ q0 q2 := ⟨_, rfl⟩
 rw [← hev3] at hv3 ⊢
 clear hev3
 obtain ⟨C00, C01, C02, C03⟩ := x0.cs
 obtain ⟨C10, C11, C12, C13⟩ := x1.cs
 obtain ⟨C20, C21, C22, C23⟩ := x2.cs
 obtain ⟨Cs0, Cs1, Cs2, Cs3⟩ := xs.cs
 go_wp2_with fail
 refine (QCmp_q (Ja2.out.below hw10_) (Ja1.out.below hw10_) (by decide) (by decide)).mono ?_
 rintro e w12 ⟨rfl, hb⟩
 clear C00 C01 C02 C03 C10 C11 C12 C13 C20 C21 C22 C23 Cs0 Cs1 Cs2 Cs3
 replace x0 := x0.below hb
 replace x1 := x1.below hb
 replace x2 := x2.below hb
 replace xs := xs.below hb
 replace Js := Hi (Js.out.below hb)
 have hw11_ := bt hw10_ hb
 clear hb hw10_
 have hv4 := cmpQ_le HC.out.2
 obtain ⟨v4, hev4⟩ : ∃ v, v = cmpQ q2 q1 := ⟨_, rfl⟩
 rw [← hev4] at hv4 ⊢
 clear hev4
 obtain ⟨C00, C01, C02, C03⟩ := x0.cs
 obtain ⟨C10, C11, C12, C13⟩ := x1.cs
 obtain ⟨C20, C21, C22, C23⟩ := x2.cs
 obtain ⟨Cs0, Cs1, Cs2, Cs3⟩ := xs.cs
 go_wp2_with fail
 refine (ZCmp_z Js.out.zd (Ja2.out.below hw11_).zd (by decide) (by decide)).mono ?_
 rintro e w13 ⟨rfl, hb⟩
 clear C00 C01 C02 C03 C10 C11 C12 C13 C20 C21 C22 C23 Cs0 Cs1 Cs2 Cs3
 replace x0 := x0.below hb
 replace x1 := x1.below hb
 replace x2 := x2.below hb
 replace xs := xs.below hb
 replace Js := Hi (Js.out.below hb)
 have hw12_ := bt hw11_ hb
 clear hb hw11_
 have hleast := HS.out.least _ HC.out.1 HC.out.2
 have HLe := Hi hleast
 clear hleast
 have hdd : ((qs.den : Int) < (q2.den : Int)) ∨ ((qs.den : Int) = (q2.den : Int)) := by have := HLe.out.1; omega
 have hoo : q2 ≤ qs ∨ qs < q2 := by by_cases h : qs < q2; exact .inr h; exact .inl (Rat.not_lt.1 h)
 rcases hdd with hd | hd
 all_goals rcases hoo with ho | ho
 ·have HD := Hi hd
  have HO := Hi ho
  clear hd ho
  rw [cmpI_lt HD.out]
  obtain ⟨C00, C01, C02, C03⟩ := x0.cs
  obtain ⟨C10, C11, C12, C13⟩ := x1.cs
  obtain ⟨C20, C21, C22, C23⟩ := x2.cs
  obtain ⟨Cs0, Cs1, Cs2, Cs3⟩ := xs.cs
  go_wp2_with fail
  clear C00 C01 C02 C03 C10 C11 C12 C13 C20 C21 C22 C23 Cs0 Cs1 Cs2 Cs3
  go_cut [91] (fun v wx => v = .bool false ∧ Below w13.heap.size w13 wx)
  case first =>
   as_aux_lemma =>
   have HC := (hj x0.hc (hj x1.hc (hj x2.hc xs.hc)))
   have HW := Hi hw12_
   have Gx0 := Hi x0
   have Gx1 := Hi x1
   have Gx2 := Hi x2
   have Gxs := Hi xs
   clear x0 x1 x2 xs hw12_
   refine rgh HC fun hHeld => ?_
   obtain ⟨wd13, hwd⟩ : ∃ W, W = w13.drew := ⟨_, rfl⟩
   have HBwd13 : Hid (Below w13.heap.size w13 wd13) := Hi (by rw [hwd]; exact bw (b0 _))
   rw [← hwd] at hHeld ⊢
   clear hwd
   refine tk 0 ?_
   refine tk 1 ?_
   refine tk 2 ?_
   refine tk 3 ?_
   refine tk 4 ?_
   refine tk 5 ?_
   refine wpAnyH_take (i := 6) (oi := { dst := some 82, op := Op.fieldAddr 35 (Operand.tmp 7) 0, type := 0, pos := "law.go:108", after := #[{ on := 5, ground := Ground.guard }], guard := some (5, true) }) (v := undef) rfl (by kernel_rfl) (by kernel_rfl) (by kernel_rfl) (fun _ _ _ h => h) (Or.inr ⟨by rfl, rfl⟩) (by assumption) ?_
   try simp only [Act.put, List.getElem_toArray, List.getElem_cons_zero, List.getElem_cons_succ, List.setIfInBounds_toArray, List.set_cons_zero, List.set_cons_succ]
   refine wpAnyH_take (i := 7) (oi := { dst := some 83, op := Op.load 24 (Operand.tmp 82), type := 24, pos := "law.go:108", after := #[{ on := 6, ground := Ground.data }, { on := 5, ground := Ground.guard }], guard := some (5, true) }) (v := undef) rfl (by kernel_rfl) (by kernel_rfl) (by kernel_rfl) (fun _ _ _ h => h) (Or.inr ⟨by rfl, rfl⟩) (by assumption) ?_
   try simp only [Act.put, List.getElem_toArray, List.getElem_cons_zero, List.getElem_cons_succ, List.setIfInBounds_toArray, List.set_cons_zero, List.set_cons_succ]
   refine wpAnyH_take (i := 8) (oi := { dst := some 84, op := Op.call { callee := Callee.value (Operand.func 62), args := #[Operand.tmp 83], argTypes := #[24] }, type := 24, pos := "law.go:108", after := #[{ on := 7, ground := Ground.data }, { on := 5, ground := Ground.chain }, { on := 5, ground := Ground.guard }], guard := some (5, true) }) (v := undef) rfl (by kernel_rfl) (by kernel_rfl) (by kernel_rfl) (fun _ _ _ h => h) (Or.inr ⟨by rfl, rfl⟩) (by assumption) ?_
   try simp only [Act.put, List.getElem_toArray, List.getElem_cons_zero, List.getElem_cons_succ, List.setIfInBounds_toArray, List.set_cons_zero, List.set_cons_succ]
   refine wpAnyH_take (i := 9) (oi := { dst := some 85, op := Op.fieldAddr 35 (Operand.tmp 5) 0, type := 0, pos := "law.go:108", after := #[{ on := 5, ground := Ground.guard }], guard := some (5, true) }) (v := undef) rfl (by kernel_rfl) (by kernel_rfl) (by kernel_rfl) (fun _ _ _ h => h) (Or.inr ⟨by rfl, rfl⟩) (by assumption) ?_
   try simp only [Act.put, List.getElem_toArray, List.getElem_cons_zero, List.getElem_cons_succ, List.setIfInBounds_toArray, List.set_cons_zero, List.set_cons_succ]
   refine wpAnyH_take (i := 10) (oi := { dst := some 86, op := Op.load 24 (Operand.tmp 85), type := 24, pos := "law.go:108", after := #[{ on := 9, ground := Ground.data }, { on := 5, ground := Ground.guard }], guard := some (5, true) }) (v := undef) rfl (by kernel_rfl) (by kernel_rfl) (by kernel_rfl) (fun _ _ _ h => h) (Or.inr ⟨by rfl, rfl⟩) (by assumption) ?_
   try simp only [Act.put, List.getElem_toArray, List.getElem_cons_zero, List.getElem_cons_succ, List.setIfInBounds_toArray, List.set_cons_zero, List.set_cons_succ]
   refine wpAnyH_take (i := 11) (oi := { dst := some 87, op := Op.call { callee := Callee.value (Operand.func 62), args := #[Operand.tmp 86], argTypes := #[24] }, type := 24, pos := "law.go:108", after := #[{ on := 10, ground := Ground.data }, { on := 8, ground := Ground.chain }, { on := 5, ground := Ground.guard }], guard := some (5, true) }) (v := undef) rfl (by kernel_rfl) (by kernel_rfl) (by kernel_rfl) (fun _ _ _ h => h) (Or.inr ⟨by rfl, rfl⟩) (by assumption) ?_
   try simp only [Act.put, List.getElem_toArray, List.getElem_cons_zero, List.getElem_cons_succ, List.setIfInBounds_toArray, List.set_cons_zero, List.set_cons_succ]
   refine wpAnyH_take (i := 12) (oi := { dst := some 88, op := Op.call { callee := Callee.value (Operand.func 61), args := #[Operand.tmp 84, Operand.tmp 87], argTypes := #[24, 24] }, type := 3, pos := "law.go:108", after := #[{ on := 8, ground := Ground.data }, { on := 11, ground := Ground.data }, { on := 11, ground := Ground.chain }, { on := 5, ground := Ground.guard }], guard := some (5, true) }) (v := undef) rfl (by kernel_rfl) (by kernel_rfl) (by kernel_rfl) (fun _ _ _ h => h) (Or.inr ⟨by rfl, rfl⟩) (by assumption) ?_
   try simp only [Act.put, List.getElem_toArray, List.getElem_cons_zero, List.getElem_cons_succ, List.setIfInBounds_toArray, List.set_cons_zero, List.set_cons_succ]
   refine wpAnyH_take (i := 13) (oi := { dst := some 89, op := Op.binOp BinOp.gtr 3 (Operand.tmp 88) (Operand.const (Value.int IntKind.i64 0)) 3, type := 4, pos := "law.go:108", after := #[{ on := 12, ground := Ground.data }, { on := 5, ground := Ground.guard }], guard := some (5, true) }) (v := undef) rfl (by kernel_rfl) (by kernel_rfl) (by kernel_rfl) (fun _ _ _ h => h) (Or.inr ⟨by rfl, rfl⟩) (by assumption) ?_
   try simp only [Act.put, List.getElem_toArray, List.getElem_cons_zero, List.getElem_cons_succ, List.setIfInBounds_toArray, List.set_cons_zero, List.set_cons_succ]
   refine tk 14 ?_
   refine tk 15 ?_
   refine wpAnyH_done (by kernel_rfl) ?_ _
   clear hHeld
   go_wp2_with fail
   go_meet
   exact ⟨rfl, HBwd13.out⟩
  case rest =>
  obtain ⟨rfl, hb⟩ := hcut
  obtain ⟨w14, hwn⟩ : ∃ v, v = wc := ⟨_, rfl⟩
  rw [← hwn] at hb ⊢
  clear hwn wc
  replace x0 := x0.below hb
  replace x1 := x1.below hb
  replace x2 := x2.below hb
  replace xs := xs.below hb
  replace Js := Hi (Js.out.below hb)
  have hw14_ := bt hw12_ hb
  clear hb hw12_
  obtain ⟨C00, C01, C02, C03⟩ := x0.cs
  obtain ⟨C10, C11, C12, C13⟩ := x1.cs
  obtain ⟨C20, C21, C22, C23⟩ := x2.cs
  obtain ⟨Cs0, Cs1, Cs2, Cs3⟩ := xs.cs
  go_wp2_with fail
  refine (QSim_q (Ja2.out.below hw14_) Js.out HO.out).mono ?_
  rintro e w15 ⟨qx, hsx, x, rfl, hx, hb⟩
  clear C00 C01 C02 C03 C10 C11 C12 C13 C20 C21 C22 C23 Cs0 Cs1 Cs2 Cs3
  replace x0 := x0.below hb
  replace x1 := x1.below hb
  replace x2 := x2.below hb
  replace xs := xs.below hb
  replace Js := Hi (Js.out.below hb)
  have hw15_ := bt hw14_ hb
  clear hb hw14_
  have Jx := Hi hx
  have HU := Hi (sim_uniq HS.out HC.out.1 HC.out.2 (.inl hsx))
  clear hx hsx
  have x0a := x0.alloc (.cells #[.bool x.n, .slice x.A x.l.length x.c, .bool x.m, .slice x.B x.k.length x.d] 35)
  obtain ⟨C00, C01, C02, C03⟩ := x0a.cs
  have x1a := x1.alloc (.cells #[.bool x.n, .slice x.A x.l.length x.c, .bool x.m, .slice x.B x.k.length x.d] 35)
  obtain ⟨C10, C11, C12, C13⟩ := x1a.cs
  have x2a := x2.alloc (.cells #[.bool x.n, .slice x.A x.l.length x.c, .bool x.m, .slice x.B x.k.length x.d] 35)
  obtain ⟨C20, C21, C22, C23⟩ := x2a.cs
  have xsa := xs.alloc (.cells #[.bool x.n, .slice x.A x.l.length x.c, .bool x.m, .slice x.B x.k.length x.d] 35)
  obtain ⟨Cs0, Cs1, Cs2, Cs3⟩ := xsa.cs
  go_wp2_with fail
  clear C00 C01 C02 C03 x0a C10 C11 C12 C13 x1a C20 C21 C22 C23 x2a Cs0 Cs1 Cs2 Cs3 xsa
  obtain ⟨w16, hw, xx, hb⟩ := nb4 w15 x.n x.A x.c x.l x.m x.B x.d x.k
  obtain ⟨xxp, hxxp⟩ : ∃ p, p = w15.heap.size := ⟨_, rfl⟩
  rw [← hxxp] at xx ⊢
  have xxg : w.heap.size ≤ xxp := by have := hw15_.size; omega
  rw [← hw]
  clear hw
  have Nx0_xx : Hid (w.heap.size < xxp) := Hi (by have := x0.lt; omega)
  have Nx1_xx : Hid (w.heap.size + 1 < xxp) := Hi (by have := x1.lt; omega)
  have Nx2_xx : Hid (w.heap.size + 1 + 1 < xxp) := Hi (by have := x2.lt; omega)
  have Nxs_xx : Hid (xsp < xxp) := Hi (by have := xs.lt; omega)
  clear hxxp
  replace x0 := x0.below hb
  replace x1 := x1.below hb
  replace x2 := x2.below hb
  replace xs := xs.below hb
  replace Js := Hi (Js.out.below hb)
  replace Jx := Hi (Jx.out.below hb)
  have hw16_ := bt hw15_ hb
  clear hb hw15_
  refine (QCmp_q (Ja2.out.below hw16_) Js.out (by decide) (by decide)).mono ?_
  rintro e w17 ⟨rfl, hb⟩
  replace x0 := x0.below hb
  replace x1 := x1.below hb
  replace x2 := x2.below hb
  replace xs := xs.below hb
  replace xx := xx.below hb
  replace Js := Hi (Js.out.below hb)
  replace Jx := Hi (Jx.out.below hb)
  have hw17_ := bt hw16_ hb
  clear hb hw16_
  have hv6 := cmpQ_le HO.out
  obtain ⟨v6, hev6⟩ : ∃ v, v = cmpQ q2 qs := ⟨_, rfl⟩
  rw [← hev6] at hv6 ⊢
  clear hev6
  obtain ⟨C00, C01, C02, C03⟩ := x0.cs
  obtain ⟨C10, C11, C12, C13⟩ := x1.cs
  obtain ⟨C20, C21, C22, C23⟩ := x2.cs
  obtain ⟨Cs0, Cs1, Cs2, Cs3⟩ := xs.cs
  obtain ⟨Cx0, Cx1, Cx2, Cx3⟩ := xx.cs
  go_wp2_with fail
  refine (sane2 _ (HTn.out.below hw17_)).mono ?_
  rintro e1 wz ⟨rfl, hb⟩
  clear C00 C01 C02 C03 C10 C11 C12 C13 C20 C21 C22 C23 Cs0 Cs1 Cs2 Cs3 Cx0 Cx1 Cx2 Cx3
  replace x0 := x0.below hb
  replace x1 := x1.below hb
  replace x2 := x2.below hb
  replace xs := xs.below hb
  replace xx := xx.below hb
  replace Js := Hi (Js.out.below hb)
  replace Jx := Hi (Jx.out.below hb)
  have hw18_ := bt hw17_ hb
  clear hb hw17_
  obtain ⟨Cx0, Cx1, Cx2, Cx3⟩ := xx.cs
  obtain ⟨Cs0, Cs1, Cs2, Cs3⟩ := xs.cs
  go_wp2_with fail
  refine (QSame_qe Jx.out Js.out HU.out (by decide) (by decide)).mono ?_
  rintro e w18 ⟨rfl, hb⟩
  clear Cx0 Cx1 Cx2 Cx3 Cs0 Cs1 Cs2 Cs3
  replace x0 := x0.below hb
  replace x1 := x1.below hb
  replace x2 := x2.below hb
  replace xs := xs.below hb
  replace xx := xx.below hb
  replace Js := Hi (Js.out.below hb)
  replace Jx := Hi (Jx.out.below hb)
  have hw19_ := bt hw18_ hb
  clear hb hw18_
  go_wp2_with fail
  go_ret
  exact ⟨rfl, hw19_⟩
 ·have HD := Hi hd
  have HO := Hi ho
  clear hd ho
  rw [cmpI_lt HD.out]
  obtain ⟨C00, C01, C02, C03⟩ := x0.cs
  obtain ⟨C10, C11, C12, C13⟩ := x1.cs
  obtain ⟨C20, C21, C22, C23⟩ := x2.cs
  obtain ⟨Cs0, Cs1, Cs2, Cs3⟩ := xs.cs
  go_wp2_with fail
  clear C00 C01 C02 C03 C10 C11 C12 C13 C20 C21 C22 C23 Cs0 Cs1 Cs2 Cs3
  go_cut [91] (fun v wx => v = .bool false ∧ Below w13.heap.size w13 wx)
  case first =>
   as_aux_lemma =>
   have HC := (hj x0.hc (hj x1.hc (hj x2.hc xs.hc)))
   have HW := Hi hw12_
   have Gx0 := Hi x0
   have Gx1 := Hi x1
   have Gx2 := Hi x2
   have Gxs := Hi xs
   clear x0 x1 x2 xs hw12_
   refine rgh HC fun hHeld => ?_
   obtain ⟨wd20, hwd⟩ : ∃ W, W = w13.drew := ⟨_, rfl⟩
   have HBwd20 : Hid (Below w13.heap.size w13 wd20) := Hi (by rw [hwd]; exact bw (b0 _))
   rw [← hwd] at hHeld ⊢
   clear hwd
   refine tk 0 ?_
   refine tk 1 ?_
   refine tk 2 ?_
   refine tk 3 ?_
   refine tk 4 ?_
   refine tk 5 ?_
   refine wpAnyH_take (i := 6) (oi := { dst := some 82, op := Op.fieldAddr 35 (Operand.tmp 7) 0, type := 0, pos := "law.go:108", after := #[{ on := 5, ground := Ground.guard }], guard := some (5, true) }) (v := undef) rfl (by kernel_rfl) (by kernel_rfl) (by kernel_rfl) (fun _ _ _ h => h) (Or.inr ⟨by rfl, rfl⟩) (by assumption) ?_
   try simp only [Act.put, List.getElem_toArray, List.getElem_cons_zero, List.getElem_cons_succ, List.setIfInBounds_toArray, List.set_cons_zero, List.set_cons_succ]
   refine wpAnyH_take (i := 7) (oi := { dst := some 83, op := Op.load 24 (Operand.tmp 82), type := 24, pos := "law.go:108", after := #[{ on := 6, ground := Ground.data }, { on := 5, ground := Ground.guard }], guard := some (5, true) }) (v := undef) rfl (by kernel_rfl) (by kernel_rfl) (by kernel_rfl) (fun _ _ _ h => h) (Or.inr ⟨by rfl, rfl⟩) (by assumption) ?_
   try simp only [Act.put, List.getElem_toArray, List.getElem_cons_zero, List.getElem_cons_succ, List.setIfInBounds_toArray, List.set_cons_zero, List.set_cons_succ]
   refine wpAnyH_take (i := 8) (oi := { dst := some 84, op := Op.call { callee := Callee.value (Operand.func 62), args := #[Operand.tmp 83], argTypes := #[24] }, type := 24, pos := "law.go:108", after := #[{ on := 7, ground := Ground.data }, { on := 5, ground := Ground.chain }, { on := 5, ground := Ground.guard }], guard := some (5, true) }) (v := undef) rfl (by kernel_rfl) (by kernel_rfl) (by kernel_rfl) (fun _ _ _ h => h) (Or.inr ⟨by rfl, rfl⟩) (by assumption) ?_
   try simp only [Act.put, List.getElem_toArray, List.getElem_cons_zero, List.getElem_cons_succ, List.setIfInBounds_toArray, List.set_cons_zero, List.set_cons_succ]
   refine wpAnyH_take (i := 9) (oi := { dst := some 85, op := Op.fieldAddr 35 (Operand.tmp 5) 0, type := 0, pos := "law.go:108", after := #[{ on := 5, ground := Ground.guard }], guard := some (5, true) }) (v := undef) rfl (by kernel_rfl) (by kernel_rfl) (by kernel_rfl) (fun _ _ _ h => h) (Or.inr ⟨by rfl, rfl⟩) (by assumption) ?_
   try simp only [Act.put, List.getElem_toArray, List.getElem_cons_zero, List.getElem_cons_succ, List.setIfInBounds_toArray, List.set_cons_zero, List.set_cons_succ]
   refine wpAnyH_take (i := 10) (oi := { dst := some 86, op := Op.load 24 (Operand.tmp 85), type := 24, pos := "law.go:108", after := #[{ on := 9, ground := Ground.data }, { on := 5, ground := Ground.guard }], guard := some (5, true) }) (v := undef) rfl (by kernel_rfl) (by kernel_rfl) (by kernel_rfl) (fun _ _ _ h => h) (Or.inr ⟨by rfl, rfl⟩) (by assumption) ?_
   try simp only [Act.put, List.getElem_toArray, List.getElem_cons_zero, List.getElem_cons_succ, List.setIfInBounds_toArray, List.set_cons_zero, List.set_cons_succ]
   refine wpAnyH_take (i := 11) (oi := { dst := some 87, op := Op.call { callee := Callee.value (Operand.func 62), args := #[Operand.tmp 86], argTypes := #[24] }, type := 24, pos := "law.go:108", after := #[{ on := 10, ground := Ground.data }, { on := 8, ground := Ground.chain }, { on := 5, ground := Ground.guard }], guard := some (5, true) }) (v := undef) rfl (by kernel_rfl) (by kernel_rfl) (by kernel_rfl) (fun _ _ _ h => h) (Or.inr ⟨by rfl, rfl⟩) (by assumption) ?_
   try simp only [Act.put, List.getElem_toArray, List.getElem_cons_zero, List.getElem_cons_succ, List.setIfInBounds_toArray, List.set_cons_zero, List.set_cons_succ]
   refine wpAnyH_take (i := 12) (oi := { dst := some 88, op := Op.call { callee := Callee.value (Operand.func 61), args := #[Operand.tmp 84, Operand.tmp 87], argTypes := #[24, 24] }, type := 3, pos := "law.go:108", after := #[{ on := 8, ground := Ground.data }, { on := 11, ground := Ground.data }, { on := 11, ground := Ground.chain }, { on := 5, ground := Ground.guard }], guard := some (5, true) }) (v := undef) rfl (by kernel_rfl) (by kernel_rfl) (by kernel_rfl) (fun _ _ _ h => h) (Or.inr ⟨by rfl, rfl⟩) (by assumption) ?_
   try simp only [Act.put, List.getElem_toArray, List.getElem_cons_zero, List.getElem_cons_succ, List.setIfInBounds_toArray, List.set_cons_zero, List.set_cons_succ]
   refine wpAnyH_take (i := 13) (oi := { dst := some 89, op := Op.binOp BinOp.gtr 3 (Operand.tmp 88) (Operand.const (Value.int IntKind.i64 0)) 3, type := 4, pos := "law.go:108", after := #[{ on := 12, ground := Ground.data }, { on := 5, ground := Ground.guard }], guard := some (5, true) }) (v := undef) rfl (by kernel_rfl) (by kernel_rfl) (by kernel_rfl) (fun _ _ _ h => h) (Or.inr ⟨by rfl, rfl⟩) (by assumption) ?_
   try simp only [Act.put, List.getElem_toArray, List.getElem_cons_zero, List.getElem_cons_succ, List.setIfInBounds_toArray, List.set_cons_zero, List.set_cons_succ]
   refine tk 14 ?_
   refine tk 15 ?_
   refine wpAnyH_done (by kernel_rfl) ?_ _
   clear hHeld
   go_wp2_with fail
   go_meet
   exact ⟨rfl, HBwd20.out⟩
  case rest =>
  obtain ⟨rfl, hb⟩ := hcut
  obtain ⟨w19, hwn⟩ : ∃ v, v = wc := ⟨_, rfl⟩
  rw [← hwn] at hb ⊢
  clear hwn wc
  replace x0 := x0.below hb
  replace x1 := x1.below hb
  replace x2 := x2.below hb
  replace xs := xs.below hb
  replace Js := Hi (Js.out.below hb)
  have hw21_ := bt hw12_ hb
  clear hb hw12_
  obtain ⟨C00, C01, C02, C03⟩ := x0.cs
  obtain ⟨C10, C11, C12, C13⟩ := x1.cs
  obtain ⟨C20, C21, C22, C23⟩ := x2.cs
  obtain ⟨Cs0, Cs1, Cs2, Cs3⟩ := xs.cs
  go_wp2_with fail
  refine (QSim_e (Ja2.out.below hw21_) Js.out HO.out).mono ?_
  rintro e w20 ⟨xe, rfl, hb⟩
  clear C00 C01 C02 C03 C10 C11 C12 C13 C20 C21 C22 C23 Cs0 Cs1 Cs2 Cs3
  replace x0 := x0.below hb
  replace x1 := x1.below hb
  replace x2 := x2.below hb
  replace xs := xs.below hb
  replace Js := Hi (Js.out.below hb)
  have hw22_ := bt hw21_ hb
  clear hb hw21_
  have x0a := x0.alloc (.cells #[.bool xe.n, .slice xe.A xe.l.length xe.c, .bool xe.m, .slice xe.B xe.k.length xe.d] 35)
  obtain ⟨C00, C01, C02, C03⟩ := x0a.cs
  have x1a := x1.alloc (.cells #[.bool xe.n, .slice xe.A xe.l.length xe.c, .bool xe.m, .slice xe.B xe.k.length xe.d] 35)
  obtain ⟨C10, C11, C12, C13⟩ := x1a.cs
  have x2a := x2.alloc (.cells #[.bool xe.n, .slice xe.A xe.l.length xe.c, .bool xe.m, .slice xe.B xe.k.length xe.d] 35)
  obtain ⟨C20, C21, C22, C23⟩ := x2a.cs
  have xsa := xs.alloc (.cells #[.bool xe.n, .slice xe.A xe.l.length xe.c, .bool xe.m, .slice xe.B xe.k.length xe.d] 35)
  obtain ⟨Cs0, Cs1, Cs2, Cs3⟩ := xsa.cs
  go_wp2_with fail
  clear C00 C01 C02 C03 x0a C10 C11 C12 C13 x1a C20 C21 C22 C23 x2a Cs0 Cs1 Cs2 Cs3 xsa
  obtain ⟨w21, hw, xx, hb⟩ := nb4 w20 xe.n xe.A xe.c xe.l xe.m xe.B xe.d xe.k
  obtain ⟨xxp, hxxp⟩ : ∃ p, p = w20.heap.size := ⟨_, rfl⟩
  rw [← hxxp] at xx ⊢
  have xxg : w.heap.size ≤ xxp := by have := hw22_.size; omega
  rw [← hw]
  clear hw
  have Nx0_xx : Hid (w.heap.size < xxp) := Hi (by have := x0.lt; omega)
  have Nx1_xx : Hid (w.heap.size + 1 < xxp) := Hi (by have := x1.lt; omega)
  have Nx2_xx : Hid (w.heap.size + 1 + 1 < xxp) := Hi (by have := x2.lt; omega)
  have Nxs_xx : Hid (xsp < xxp) := Hi (by have := xs.lt; omega)
  clear hxxp
  replace x0 := x0.below hb
  replace x1 := x1.below hb
  replace x2 := x2.below hb
  replace xs := xs.below hb
  replace Js := Hi (Js.out.below hb)
  have hw23_ := bt hw22_ hb
  clear hb hw22_
  refine (QCmp_q (Ja2.out.below hw23_) Js.out (by decide) (by decide)).mono ?_
  rintro e w22 ⟨rfl, hb⟩
  replace x0 := x0.below hb
  replace x1 := x1.below hb
  replace x2 := x2.below hb
  replace xs := xs.below hb
  replace xx := xx.below hb
  replace Js := Hi (Js.out.below hb)
  have hw24_ := bt hw23_ hb
  clear hb hw23_
  rw [cmpQ_gt HO.out]
  obtain ⟨C00, C01, C02, C03⟩ := x0.cs
  obtain ⟨C10, C11, C12, C13⟩ := x1.cs
  obtain ⟨C20, C21, C22, C23⟩ := x2.cs
  obtain ⟨Cs0, Cs1, Cs2, Cs3⟩ := xs.cs
  obtain ⟨Cx0, Cx1, Cx2, Cx3⟩ := xx.cs
  go_wp2_with fail
  refine (QSim_q Js.out (Ja2.out.below hw24_) (Rat.le_of_lt HO.out)).mono ?_
  rintro e w23 ⟨qx, hsx, x, rfl, hx, hb⟩
  clear C00 C01 C02 C03 C10 C11 C12 C13 C20 C21 C22 C23 Cs0 Cs1 Cs2 Cs3 Cx0 Cx1 Cx2 Cx3
  replace x0 := x0.below hb
  replace x1 := x1.below hb
  replace x2 := x2.below hb
  replace xs := xs.below hb
  replace xx := xx.below hb
  replace Js := Hi (Js.out.below hb)
  have hw25_ := bt hw24_ hb
  clear hb hw24_
  have Jx := Hi hx
  have HU := Hi (sim_uniq HS.out HC.out.1 HC.out.2 (.inr hsx))
  clear hx hsx
  obtain ⟨f0, f1, f2, f3⟩ := xx.fr
  obtain ⟨r0, r1, r2, r3⟩ := xx.cs
  go_wp2_with fail
  clear f0 f1 f2 f3 r0 r1 r2 r3
  obtain ⟨w24, hwn⟩ : ∃ W, W = ((((w23.setCell ⟨xxp, 0, none⟩ (.bool x.n)).setCell ⟨xxp, 1, none⟩ (.slice x.A x.l.length x.c)).setCell ⟨xxp, 2, none⟩ (.bool x.m)).setCell ⟨xxp, 3, none⟩ (.slice x.B x.k.length x.d)) := ⟨_, rfl⟩
  have hwb : Below w.heap.size w w24 := by rw [hwn]; exact b4 hw25_ xxg _ _ _ _
  replace Js := Hi (show QV _ w24 _ _ by rw [hwn]; exact Js.out.four xx _ _ _ _)
  replace Jx := Hi (show QV _ w24 _ _ by rw [hwn]; exact Jx.out.four xx _ _ _ _)
  replace x0 := (show Box4 w24 _ _ _ _ _ by rw [hwn]; exact x0.far4 (by have := Nx0_xx.out; omega) _ _ _ _)
  replace x1 := (show Box4 w24 _ _ _ _ _ by rw [hwn]; exact x1.far4 (by have := Nx1_xx.out; omega) _ _ _ _)
  replace x2 := (show Box4 w24 _ _ _ _ _ by rw [hwn]; exact x2.far4 (by have := Nx2_xx.out; omega) _ _ _ _)
  replace xs := (show Box4 w24 _ _ _ _ _ by rw [hwn]; exact xs.far4 (by have := Nxs_xx.out; omega) _ _ _ _)
  replace xx := (show Box4 w24 xxp (.bool x.n) (.slice x.A x.l.length x.c) (.bool x.m) (.slice x.B x.k.length x.d) by rw [hwn]; exact xx.stored _ _ _ _)
  rw [← hwn]
  clear hwn hw25_
  have hw26_ := hwb
  clear hwb
  refine (sane2 _ (HTn.out.below hw26_)).mono ?_
  rintro e1 wz ⟨rfl, hb⟩
  replace x0 := x0.below hb
  replace x1 := x1.below hb
  replace x2 := x2.below hb
  replace xs := xs.below hb
  replace xx := xx.below hb
  replace Js := Hi (Js.out.below hb)
  replace Jx := Hi (Jx.out.below hb)
  have hw27_ := bt hw26_ hb
  clear hb hw26_
  obtain ⟨Cx0, Cx1, Cx2, Cx3⟩ := xx.cs
  obtain ⟨Cs0, Cs1, Cs2, Cs3⟩ := xs.cs
  go_wp2_with fail
  refine (QSame_qe Jx.out Js.out HU.out (by decide) (by decide)).mono ?_
  rintro e w25 ⟨rfl, hb⟩
  clear Cx0 Cx1 Cx2 Cx3 Cs0 Cs1 Cs2 Cs3
  replace x0 := x0.below hb
  replace x1 := x1.below hb
  replace x2 := x2.below hb
  replace xs := xs.below hb
  replace xx := xx.below hb
  replace Js := Hi (Js.out.below hb)
  replace Jx := Hi (Jx.out.below hb)
  have hw28_ := bt hw27_ hb
  clear hb hw27_
  go_wp2_with fail
  go_ret
  exact ⟨rfl, hw28_⟩
 ·have HD := Hi hd
  have HO := Hi ho
  clear hd ho
  rw [cmpI_eq HD.out]
  obtain ⟨C00, C01, C02, C03⟩ := x0.cs
  obtain ⟨C10, C11, C12, C13⟩ := x1.cs
  obtain ⟨C20, C21, C22, C23⟩ := x2.cs
  obtain ⟨Cs0, Cs1, Cs2, Cs3⟩ := xs.cs
  go_wp2_with fail
  clear C00 C01 C02 C03 C10 C11 C12 C13 C20 C21 C22 C23 Cs0 Cs1 Cs2 Cs3
  go_cut [91] (fun v wx => v = .bool false ∧ Below w13.heap.size w13 wx)
  case first =>
   as_aux_lemma =>
   have HC := (hj x2.hc xs.hc)
   have HW := Hi hw12_
   have Gx0 := Hi x0
   have Gx1 := Hi x1
   have Gx2 := Hi x2
   have Gxs := Hi xs
   clear x0 x1 x2 xs hw12_
   refine rgh HC fun hHeld => ?_
   refine tk 0 ?_
   refine tk 1 ?_
   refine tk 2 ?_
   refine tk 3 ?_
   refine tk 4 ?_
   refine tk 5 ?_
   refine tk 6 ?_
   refine tk 7 ?_
   refine tk 9 ?_
   refine tk 10 ?_
   refine cl 8 fun K hK => ?_
   go_simp
   go_at_call 62
   refine (ZAbs_z (Js.out.below (bw (b0 _))).zn (by decide)).mono ?_
   rintro e y27 ⟨za, rfl, hza, hb⟩
   have HBy27 := Hi (bt (bw (b0 w13)) hb)
   have Jza := Hi hza
   clear hb hza hHeld
   refine rk hK (HC.out _ HBy27.out) fun hHeld => ?_
   clear hK K
   refine cl 11 fun K hK => ?_
   go_simp
   go_at_call 62
   refine (ZAbs_z (Ja2.out.below (bt HW.out HBy27.out)).zn (by decide)).mono ?_
   rintro e y28 ⟨zb, rfl, hzb, hb⟩
   replace Jza := Hi (Jza.out.below hb)
   have HBy28 := Hi (bt HBy27.out hb)
   have Jzb := Hi hzb
   clear hb hzb hHeld
   refine rk hK (HC.out _ HBy28.out) fun hHeld => ?_
   clear hK K
   refine cl 12 fun K hK => ?_
   go_simp
   go_at_call 61
   refine (ZCmp_z Jza.out Jzb.out (by decide) (by decide)).mono ?_
   rintro e y29 ⟨rfl, hb⟩
   replace Jza := Hi (Jza.out.below hb)
   replace Jzb := Hi (Jzb.out.below hb)
   have HBy29 := Hi (bt HBy28.out hb)
   clear hb  hHeld
   refine rk hK (HC.out _ HBy29.out) fun hHeld => ?_
   clear hK K
   refine tk 13 ?_
   refine tk 14 ?_
   refine tk 15 ?_
   refine wpAnyH_done (by kernel_rfl) ?_ _
   clear hHeld
   go_wp2_with fail
   go_meet
   exact ⟨(by rw [decide_eq_false (by have := cmpI_nonpos (show (qs.num.natAbs : Int) ≤ (q2.num.natAbs : Int) by have := HLe.out.2; omega); omega)]), HBy29.out⟩
  case rest =>
  obtain ⟨rfl, hb⟩ := hcut
  obtain ⟨w26, hwn⟩ : ∃ v, v = wc := ⟨_, rfl⟩
  rw [← hwn] at hb ⊢
  clear hwn wc
  replace x0 := x0.below hb
  replace x1 := x1.below hb
  replace x2 := x2.below hb
  replace xs := xs.below hb
  replace Js := Hi (Js.out.below hb)
  have hw29_ := bt hw12_ hb
  clear hb hw12_
  obtain ⟨C00, C01, C02, C03⟩ := x0.cs
  obtain ⟨C10, C11, C12, C13⟩ := x1.cs
  obtain ⟨C20, C21, C22, C23⟩ := x2.cs
  obtain ⟨Cs0, Cs1, Cs2, Cs3⟩ := xs.cs
  go_wp2_with fail
  refine (QSim_q (Ja2.out.below hw29_) Js.out HO.out).mono ?_
  rintro e w30 ⟨qx, hsx, x, rfl, hx, hb⟩
  clear C00 C01 C02 C03 C10 C11 C12 C13 C20 C21 C22 C23 Cs0 Cs1 Cs2 Cs3
  replace x0 := x0.below hb
  replace x1 := x1.below hb
  replace x2 := x2.below hb
  replace xs := xs.below hb
  replace Js := Hi (Js.out.below hb)
  have hw30_ := bt hw29_ hb
  clear hb hw29_
  have Jx := Hi hx
  have HU := Hi (sim_uniq HS.out HC.out.1 HC.out.2 (.inl hsx))
  clear hx hsx
  have x0a := x0.alloc (.cells #[.bool x.n, .slice x.A x.l.length x.c, .bool x.m, .slice x.B x.k.length x.d] 35)
  obtain ⟨C00, C01, C02, C03⟩ := x0a.cs
  have x1a := x1.alloc (.cells #[.bool x.n, .slice x.A x.l.length x.c, .bool x.m, .slice x.B x.k.length x.d] 35)
  obtain ⟨C10, C11, C12, C13⟩ := x1a.cs
  have x2a := x2.alloc (.cells #[.bool x.n, .slice x.A x.l.length x.c, .bool x.m, .slice x.B x.k.length x.d] 35)
  obtain ⟨C20, C21, C22, C23⟩ := x2a.cs
  have xsa := xs.alloc (.cells #[.bool x.n, .slice x.A x.l.length x.c, .bool x.m, .slice x.B x.k.length x.d] 35)
  obtain ⟨Cs0, Cs1, Cs2, Cs3⟩ := xsa.cs
  go_wp2_with fail
  clear C00 C01 C02 C03 x0a C10 C11 C12 C13 x1a C20 C21 C22 C23 x2a Cs0 Cs1 Cs2 Cs3 xsa
  obtain ⟨w31, hw, xx, hb⟩ := nb4 w30 x.n x.A x.c x.l x.m x.B x.d x.k
  obtain ⟨xxp, hxxp⟩ : ∃ p, p = w30.heap.size := ⟨_, rfl⟩
  rw [← hxxp] at xx ⊢
  have xxg : w.heap.size ≤ xxp := by have := hw30_.size; omega
  rw [← hw]
  clear hw
  have Nx0_xx : Hid (w.heap.size < xxp) := Hi (by have := x0.lt; omega)
  have Nx1_xx : Hid (w.heap.size + 1 < xxp) := Hi (by have := x1.lt; omega)
  have Nx2_xx : Hid (w.heap.size + 1 + 1 < xxp) := Hi (by have := x2.lt; omega)
  have Nxs_xx : Hid (xsp < xxp) := Hi (by have := xs.lt; omega)
  clear hxxp
  replace x0 := x0.below hb
  replace x1 := x1.below hb
  replace x2 := x2.below hb
  replace xs := xs.below hb
  replace Js := Hi (Js.out.below hb)
  replace Jx := Hi (Jx.out.below hb)
  have hw31_ := bt hw30_ hb
  clear hb hw30_
  refine (QCmp_q (Ja2.out.below hw31_) Js.out (by decide) (by decide)).mono ?_
  rintro e w32 ⟨rfl, hb⟩
  replace x0 := x0.below hb
  replace x1 := x1.below hb
  replace x2 := x2.below hb
  replace xs := xs.below hb
  replace xx := xx.below hb
  replace Js := Hi (Js.out.below hb)
  replace Jx := Hi (Jx.out.below hb)
  have hw32_ := bt hw31_ hb
  clear hb hw31_
  have hv6 := cmpQ_le HO.out
  obtain ⟨v6, hev6⟩ : ∃ v, v = cmpQ q2 qs := ⟨_, rfl⟩
  rw [← hev6] at hv6 ⊢
  clear hev6
  obtain ⟨C00, C01, C02, C03⟩ := x0.cs
  obtain ⟨C10, C11, C12, C13⟩ := x1.cs
  obtain ⟨C20, C21, C22, C23⟩ := x2.cs
  obtain ⟨Cs0, Cs1, Cs2, Cs3⟩ := xs.cs
  obtain ⟨Cx0, Cx1, Cx2, Cx3⟩ := xx.cs
  go_wp2_with fail
  refine (sane2 _ (HTn.out.below hw32_)).mono ?_
  rintro e1 wz ⟨rfl, hb⟩
  clear C00 C01 C02 C03 C10 C11 C12 C13 C20 C21 C22 C23 Cs0 Cs1 Cs2 Cs3 Cx0 Cx1 Cx2 Cx3
  replace x0 := x0.below hb
  replace x1 := x1.below hb
  replace x2 := x2.below hb
  replace xs := xs.below hb
  replace xx := xx.below hb
  replace Js := Hi (Js.out.below hb)
  replace Jx := Hi (Jx.out.below hb)
  have hw33_ := bt hw32_ hb
  clear hb hw32_
  obtain ⟨Cx0, Cx1, Cx2, Cx3⟩ := xx.cs
  obtain ⟨Cs0, Cs1, Cs2, Cs3⟩ := xs.cs
  go_wp2_with fail
  refine (QSame_qe Jx.out Js.out HU.out (by decide) (by decide)).mono ?_
  rintro e w33 ⟨rfl, hb⟩
  clear Cx0 Cx1 Cx2 Cx3 Cs0 Cs1 Cs2 Cs3
  replace x0 := x0.below hb
  replace x1 := x1.below hb
  replace x2 := x2.below hb
  replace xs := xs.below hb
  replace xx := xx.below hb
  replace Js := Hi (Js.out.below hb)
  replace Jx := Hi (Jx.out.below hb)
  have hw34_ := bt hw33_ hb
  clear hb hw33_
  go_wp2_with fail
  go_ret
  exact ⟨rfl, hw34_⟩
 ·have HD := Hi hd
  have HO := Hi ho
  clear hd ho
  rw [cmpI_eq HD.out]
  obtain ⟨C00, C01, C02, C03⟩ := x0.cs
  obtain ⟨C10, C11, C12, C13⟩ := x1.cs
  obtain ⟨C20, C21, C22, C23⟩ := x2.cs
  obtain ⟨Cs0, Cs1, Cs2, Cs3⟩ := xs.cs
  go_wp2_with fail
  clear C00 C01 C02 C03 C10 C11 C12 C13 C20 C21 C22 C23 Cs0 Cs1 Cs2 Cs3
  go_cut [91] (fun v wx => v = .bool false ∧ Below w13.heap.size w13 wx)
  case first =>
   as_aux_lemma =>
   have HC := (hj x2.hc xs.hc)
   have HW := Hi hw12_
   have Gx0 := Hi x0
   have Gx1 := Hi x1
   have Gx2 := Hi x2
   have Gxs := Hi xs
   clear x0 x1 x2 xs hw12_
   refine rgh HC fun hHeld => ?_
   refine tk 0 ?_
   refine tk 1 ?_
   refine tk 2 ?_
   refine tk 3 ?_
   refine tk 4 ?_
   refine tk 5 ?_
   refine tk 6 ?_
   refine tk 7 ?_
   refine tk 9 ?_
   refine tk 10 ?_
   refine cl 8 fun K hK => ?_
   go_simp
   go_at_call 62
   refine (ZAbs_z (Js.out.below (bw (b0 _))).zn (by decide)).mono ?_
   rintro e y35 ⟨za, rfl, hza, hb⟩
   have HBy35 := Hi (bt (bw (b0 w13)) hb)
   have Jza := Hi hza
   clear hb hza hHeld
   refine rk hK (HC.out _ HBy35.out) fun hHeld => ?_
   clear hK K
   refine cl 11 fun K hK => ?_
   go_simp
   go_at_call 62
   refine (ZAbs_z (Ja2.out.below (bt HW.out HBy35.out)).zn (by decide)).mono ?_
   rintro e y36 ⟨zb, rfl, hzb, hb⟩
   replace Jza := Hi (Jza.out.below hb)
   have HBy36 := Hi (bt HBy35.out hb)
   have Jzb := Hi hzb
   clear hb hzb hHeld
   refine rk hK (HC.out _ HBy36.out) fun hHeld => ?_
   clear hK K
   refine cl 12 fun K hK => ?_
   go_simp
   go_at_call 61
   refine (ZCmp_z Jza.out Jzb.out (by decide) (by decide)).mono ?_
   rintro e y37 ⟨rfl, hb⟩
   replace Jza := Hi (Jza.out.below hb)
   replace Jzb := Hi (Jzb.out.below hb)
   have HBy37 := Hi (bt HBy36.out hb)
   clear hb  hHeld
   refine rk hK (HC.out _ HBy37.out) fun hHeld => ?_
   clear hK K
   refine tk 13 ?_
   refine tk 14 ?_
   refine tk 15 ?_
   refine wpAnyH_done (by kernel_rfl) ?_ _
   clear hHeld
   go_wp2_with fail
   go_meet
   exact ⟨(by rw [decide_eq_false (by have := cmpI_nonpos (show (qs.num.natAbs : Int) ≤ (q2.num.natAbs : Int) by have := HLe.out.2; omega); omega)]), HBy37.out⟩
  case rest =>
  obtain ⟨rfl, hb⟩ := hcut
  obtain ⟨w34, hwn⟩ : ∃ v, v = wc := ⟨_, rfl⟩
  rw [← hwn] at hb ⊢
  clear hwn wc
  replace x0 := x0.below hb
  replace x1 := x1.below hb
  replace x2 := x2.below hb
  replace xs := xs.below hb
  replace Js := Hi (Js.out.below hb)
  have hw35_ := bt hw12_ hb
  clear hb hw12_
  obtain ⟨C00, C01, C02, C03⟩ := x0.cs
  obtain ⟨C10, C11, C12, C13⟩ := x1.cs
  obtain ⟨C20, C21, C22, C23⟩ := x2.cs
  obtain ⟨Cs0, Cs1, Cs2, Cs3⟩ := xs.cs
  go_wp2_with fail
  refine (QSim_e (Ja2.out.below hw35_) Js.out HO.out).mono ?_
  rintro e w38 ⟨xe, rfl, hb⟩
  clear C00 C01 C02 C03 C10 C11 C12 C13 C20 C21 C22 C23 Cs0 Cs1 Cs2 Cs3
  replace x0 := x0.below hb
  replace x1 := x1.below hb
  replace x2 := x2.below hb
  replace xs := xs.below hb
  replace Js := Hi (Js.out.below hb)
  have hw36_ := bt hw35_ hb
  clear hb hw35_
  have x0a := x0.alloc (.cells #[.bool xe.n, .slice xe.A xe.l.length xe.c, .bool xe.m, .slice xe.B xe.k.length xe.d] 35)
  obtain ⟨C00, C01, C02, C03⟩ := x0a.cs
  have x1a := x1.alloc (.cells #[.bool xe.n, .slice xe.A xe.l.length xe.c, .bool xe.m, .slice xe.B xe.k.length xe.d] 35)
  obtain ⟨C10, C11, C12, C13⟩ := x1a.cs
  have x2a := x2.alloc (.cells #[.bool xe.n, .slice xe.A xe.l.length xe.c, .bool xe.m, .slice xe.B xe.k.length xe.d] 35)
  obtain ⟨C20, C21, C22, C23⟩ := x2a.cs
  have xsa := xs.alloc (.cells #[.bool xe.n, .slice xe.A xe.l.length xe.c, .bool xe.m, .slice xe.B xe.k.length xe.d] 35)
  obtain ⟨Cs0, Cs1, Cs2, Cs3⟩ := xsa.cs
  go_wp2_with fail
  clear C00 C01 C02 C03 x0a C10 C11 C12 C13 x1a C20 C21 C22 C23 x2a Cs0 Cs1 Cs2 Cs3 xsa
  obtain ⟨w39, hw, xx, hb⟩ := nb4 w38 xe.n xe.A xe.c xe.l xe.m xe.B xe.d xe.k
  obtain ⟨xxp, hxxp⟩ : ∃ p, p = w38.heap.size := ⟨_, rfl⟩
  rw [← hxxp] at xx ⊢
  have xxg : w.heap.size ≤ xxp := by have := hw36_.size; omega
  rw [← hw]
  clear hw
  have Nx0_xx : Hid (w.heap.size < xxp) := Hi (by have := x0.lt; omega)
  have Nx1_xx : Hid (w.heap.size + 1 < xxp) := Hi (by have := x1.lt; omega)
  have Nx2_xx : Hid (w.heap.size + 1 + 1 < xxp) := Hi (by have := x2.lt; omega)
  have Nxs_xx : Hid (xsp < xxp) := Hi (by have := xs.lt; omega)
  clear hxxp
  replace x0 := x0.below hb
  replace x1 := x1.below hb
  replace x2 := x2.below hb
  replace xs := xs.below hb
  replace Js := Hi (Js.out.below hb)
  have hw37_ := bt hw36_ hb
  clear hb hw36_
  refine (QCmp_q (Ja2.out.below hw37_) Js.out (by decide) (by decide)).mono ?_
  rintro e w40 ⟨rfl, hb⟩
  replace x0 := x0.below hb
  replace x1 := x1.below hb
  replace x2 := x2.below hb
  replace xs := xs.below hb
  replace xx := xx.below hb
  replace Js := Hi (Js.out.below hb)
  have hw38_ := bt hw37_ hb
  clear hb hw37_
  rw [cmpQ_gt HO.out]
  obtain ⟨C00, C01, C02, C03⟩ := x0.cs
  obtain ⟨C10, C11, C12, C13⟩ := x1.cs
  obtain ⟨C20, C21, C22, C23⟩ := x2.cs
  obtain ⟨Cs0, Cs1, Cs2, Cs3⟩ := xs.cs
  obtain ⟨Cx0, Cx1, Cx2, Cx3⟩ := xx.cs
  go_wp2_with fail
  refine (QSim_q Js.out (Ja2.out.below hw38_) (Rat.le_of_lt HO.out)).mono ?_
  rintro e w41 ⟨qx, hsx, x, rfl, hx, hb⟩
  clear C00 C01 C02 C03 C10 C11 C12 C13 C20 C21 C22 C23 Cs0 Cs1 Cs2 Cs3 Cx0 Cx1 Cx2 Cx3
  replace x0 := x0.below hb
  replace x1 := x1.below hb
  replace x2 := x2.below hb
  replace xs := xs.below hb
  replace xx := xx.below hb
  replace Js := Hi (Js.out.below hb)
  have hw39_ := bt hw38_ hb
  clear hb hw38_
  have Jx := Hi hx
  have HU := Hi (sim_uniq HS.out HC.out.1 HC.out.2 (.inr hsx))
  clear hx hsx
  obtain ⟨f0, f1, f2, f3⟩ := xx.fr
  obtain ⟨r0, r1, r2, r3⟩ := xx.cs
  go_wp2_with fail
  clear f0 f1 f2 f3 r0 r1 r2 r3
  obtain ⟨w42, hwn⟩ : ∃ W, W = ((((w41.setCell ⟨xxp, 0, none⟩ (.bool x.n)).setCell ⟨xxp, 1, none⟩ (.slice x.A x.l.length x.c)).setCell ⟨xxp, 2, none⟩ (.bool x.m)).setCell ⟨xxp, 3, none⟩ (.slice x.B x.k.length x.d)) := ⟨_, rfl⟩
  have hwb : Below w.heap.size w w42 := by rw [hwn]; exact b4 hw39_ xxg _ _ _ _
  replace Js := Hi (show QV _ w42 _ _ by rw [hwn]; exact Js.out.four xx _ _ _ _)
  replace Jx := Hi (show QV _ w42 _ _ by rw [hwn]; exact Jx.out.four xx _ _ _ _)
  replace x0 := (show Box4 w42 _ _ _ _ _ by rw [hwn]; exact x0.far4 (by have := Nx0_xx.out; omega) _ _ _ _)
  replace x1 := (show Box4 w42 _ _ _ _ _ by rw [hwn]; exact x1.far4 (by have := Nx1_xx.out; omega) _ _ _ _)
  replace x2 := (show Box4 w42 _ _ _ _ _ by rw [hwn]; exact x2.far4 (by have := Nx2_xx.out; omega) _ _ _ _)
  replace xs := (show Box4 w42 _ _ _ _ _ by rw [hwn]; exact xs.far4 (by have := Nxs_xx.out; omega) _ _ _ _)
  replace xx := (show Box4 w42 xxp (.bool x.n) (.slice x.A x.l.length x.c) (.bool x.m) (.slice x.B x.k.length x.d) by rw [hwn]; exact xx.stored _ _ _ _)
  rw [← hwn]
  clear hwn hw39_
  have hw40_ := hwb
  clear hwb
  refine (sane2 _ (HTn.out.below hw40_)).mono ?_
  rintro e1 wz ⟨rfl, hb⟩
  replace x0 := x0.below hb
  replace x1 := x1.below hb
  replace x2 := x2.below hb
  replace xs := xs.below hb
  replace xx := xx.below hb
  replace Js := Hi (Js.out.below hb)
  replace Jx := Hi (Jx.out.below hb)
  have hw41_ := bt hw40_ hb
  clear hb hw40_
  obtain ⟨Cx0, Cx1, Cx2, Cx3⟩ := xx.cs
  obtain ⟨Cs0, Cs1, Cs2, Cs3⟩ := xs.cs
  go_wp2_with fail
  refine (QSame_qe Jx.out Js.out HU.out (by decide) (by decide)).mono ?_
  rintro e w43 ⟨rfl, hb⟩
  clear Cx0 Cx1 Cx2 Cx3 Cs0 Cs1 Cs2 Cs3
  replace x0 := x0.below hb
  replace x1 := x1.below hb
  replace x2 := x2.below hb
  replace xs := xs.below hb
  replace xx := xx.below hb
  replace Js := Hi (Js.out.below hb)
  replace Jx := Hi (Jx.out.below hb)
  have hw42_ := bt hw41_ hb
  clear hb hw41_
  go_wp2_with fail
  go_ret
  exact ⟨rfl, hw42_⟩
theorem RatSimplest_m {a0 a1 a2 : QW} {q0 q1 q2 : Rat} (hT : Tens w) (j0 : QV 6 w a0 q0) (j1 : QV 6 w a1 q1) (j2 : QV 6 w a2 q2) :
  Calls Tryz.prog 7 #[.agg #[.bool a0.n, .slice a0.A a0.l.length a0.c, .bool a0.m, .slice a0.B a0.k.length a0.d], .agg #[.bool a1.n, .slice a1.A a1.l.length a1.c, .bool a1.m, .slice a1.B a1.k.length a1.d], .agg #[.bool a2.n, .slice a2.A a2.l.length a2.c, .bool a2.m, .slice a2.B a2.k.length a2.d]] w fun e w' => e = .returned (.bool true) ∧ Below w.heap.size w w' := by
 by_cases h : q1 < q0
 ·exact RatSimplest_e hT j0 j1 j2 h
 ·have hq := Rat.not_lt.1 h
  by_cases h1 : q2 < q0
  ·exact RatSimplest_o1 hT j0 j1 j2 hq h1
  ·by_cases h2 : q1 < q2
   ·exact RatSimplest_o2 hT j0 j1 j2 hq (Rat.not_lt.1 h1) h2
   ·exact RatSimplest_i hT j0 j1 j2 hq ⟨Rat.not_lt.1 h1, Rat.not_lt.1 h2⟩
theorem RatSimplest_walk (w : World)  (hA0 : WS w A0 l0) (hB0 : WS w B0 k0) (hL0 : l0.length ≤ c0 ∧ k0.length ≤ d0) (hA1 : WS w A1 l1) (hB1 : WS w B1 k1) (hL1 : l1.length ≤ c1 ∧ k1.length ≤ d1) (hA2 : WS w A2 l2) (hB2 : WS w B2 k2) (hL2 : l2.length ≤ c2 ∧ k2.length ≤ d2) (hT : Tens w) :
  Calls Tryz.prog 7 #[.agg #[.bool n0, .slice A0 l0.length c0, .bool m0, .slice B0 k0.length d0], .agg #[.bool n1, .slice A1 l1.length c1, .bool m1, .slice B1 k1.length d1], .agg #[.bool n2, .slice A2 l2.length c2, .bool m2, .slice B2 k2.length d2]] w fun e w' => e = .returned (.bool true) ∧ Below w.heap.size w w' := by
 cases ht0 : (decide (l0.length ≤ 6) && decide (k0.length ≤ 6) && isQ n0 l0 m0 k0) with
 | false => exact RatSimplest_n0 hT hA0 hB0 hL0 hA1 hB1 hL1 hA2 hB2 hL2  ht0
 | true =>
  cases ht1 : (decide (l1.length ≤ 6) && decide (k1.length ≤ 6) && isQ n1 l1 m1 k1) with
  | false => exact RatSimplest_n1 hT hA0 hB0 hL0 hA1 hB1 hL1 hA2 hB2 hL2 ht0 ht1
  | true =>
   cases ht2 : (decide (l2.length ≤ 6) && decide (k2.length ≤ 6) && isQ n2 l2 m2 k2) with
   | false => exact RatSimplest_n2 hT hA0 hB0 hL0 hA1 hB1 hL1 hA2 hB2 hL2 ht0 ht1 ht2
   | true =>
    obtain ⟨q0, j0⟩ := small_q hA0 hB0 hL0.1 hL0.2 ht0
    obtain ⟨q1, j1⟩ := small_q hA1 hB1 hL1.1 hL1.2 ht1
    obtain ⟨q2, j2⟩ := small_q hA2 hB2 hL2.1 hL2.2 ht2
    have r := RatSimplest_m hT j0 j1 j2
    exact r
end Go.Proofs.YtgljdfblgpdaaaaGreatDoor
