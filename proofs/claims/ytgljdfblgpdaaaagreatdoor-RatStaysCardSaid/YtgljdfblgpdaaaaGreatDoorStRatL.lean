import Derived.Test.YtgljdfblgpdaaaaGreatDoorPbRatL
import Derived.Test.YtgljdfblgpdaaaaGreatDoorStRatI
import Derived.Test.YtgljdfblgpdaaaaGreatDoorStSimB
set_option linter.unusedSimpArgs false
set_option linter.unusedVariables false
set_option maxRecDepth 100000
set_option maxHeartbeats 4000000
namespace Go.Proofs.YtgljdfblgpdaaaaGreatDoor
open Go.RowKit Go.Shelf
attribute [local go_sem] Oper.semAt_some
open Go.RowKit Go.Shelf
attribute [local go_sem] Oper.semAt_some
open Go.RowKit Go.Shelf
variable {A A' B B' : Option Addr} {c c' d d' : Nat} {k k' l l' : List Nat} {m m' n n' : Bool} {u v x y : Int} {w : World}
theorem QSim_none (h : IV w n A c l x) (h2 : IV w m B d k y) (h3 : IV w n' A' c' l' u) (h4 : IV w m' B' d' k' v) (hc1 : Can x y) (hc2 : Can u v) (hL : Lt 10 x ∧ Lt 10 y ∧ Lt 10 u ∧ Lt 10 v) (hs : u * y < x * v) :
  Calls Tryz.prog 60 #[.agg #[.bool n, .slice A l.length c, .bool m, .slice B k.length d], .agg #[.bool n', .slice A' l'.length c', .bool m', .slice B' k'.length d']] w (RQE w 0 0 4) := by
 have H1 := Hi h
 have H2 := Hi h2
 have H3 := Hi h3
 have H4 := Hi h4
 have HC1 := Hi hc1
 have HC2 := Hi hc2
 have HL := Hi hL
 have HS := Hi hs
 clear h h2 h3 h4 hc1 hc2 hL hs
 obtain ⟨W1, hW1, hw1, x0, x1, x2⟩ := hdQQq w n A c l m B d k n' A' c' l' m' B' d' k'
 go_enter Tryz.func60, Tryz.ntmps60
 go_wp2_with fail
 rw [← hW1]
 clear hW1
 refine g0 ?_
 intros
 refine (sound_iv (H1.out.below hw1) (H2.out.below hw1) HC1.out).mono ?_
 rintro e w2 ⟨rfl, hb⟩
 replace x0 := x0.below hb
 replace x1 := x1.below hb
 replace x2 := x2.below hb
 have hw1_ := bt hw1 hb
 clear hb hw1
 refine g1 ?_
 intros
 refine (sound_iv (H3.out.below hw1_) (H4.out.below hw1_) HC2.out).mono ?_
 rintro e w3 ⟨rfl, hb⟩
 replace x0 := x0.below hb
 replace x1 := x1.below hb
 replace x2 := x2.below hb
 have hw2_ := bt hw1_ hb
 clear hb hw1_
 refine g01 ?_
 intros
 refine (QCmp_iv (H1.out.below hw2_) (H2.out.below hw2_) (H3.out.below hw2_) (H4.out.below hw2_) (lt_le HL.out.1 (by decide)) (lt_le HL.out.2.1 (by decide)) (lt_le HL.out.2.2.1 (by decide)) (lt_le HL.out.2.2.2 (by decide))).mono ?_
 rintro e w4 ⟨rfl, hb⟩
 replace x0 := x0.below hb
 replace x1 := x1.below hb
 replace x2 := x2.below hb
 have hw3_ := bt hw2_ hb
 clear hb hw2_
 rw [show cmpI (x * v) (u * y) = 1 by have := HS.out; unfold cmpI; rw [if_neg (by omega), if_neg (by omega)]]
 obtain ⟨f0, f1, f2, f3⟩ := x2.fr
 obtain ⟨r0, r1, r2, r3⟩ := x2.cs
 go_wp2_with fail
 have z2 := x2.stored (.bool false) (.slice none 0 0) (.bool false) (.slice none 0 0)
 obtain ⟨k0, k1, k2, k3⟩ := z2.cs
 refine bodyPost_ret (v := .tuple #[.agg #[.bool false, .slice none 0 0, .bool false, .slice none 0 0], .int .i64 4]) (by simp [results, Tryz.results60, go_sem, k0, k1, k2, k3]) rfl ?_
 exact rqe_store (l := []) (k := []) hw3_ (by omega) x2 (iv0 _) (iv0 _)
theorem QSim_zero (h : IV w n A c l x) (h2 : IV w m B d k y) (h3 : IV w n' A' c' l' u) (h4 : IV w m' B' d' k' v) (hc1 : Can x y) (hc2 : Can u v) (hL : Lt 10 x ∧ Lt 10 y ∧ Lt 10 u ∧ Lt 10 v) (hs : x * v ≤ u * y ∧ x ≤ 0 ∧ 0 ≤ u) :
  Calls Tryz.prog 60 #[.agg #[.bool n, .slice A l.length c, .bool m, .slice B k.length d], .agg #[.bool n', .slice A' l'.length c', .bool m', .slice B' k'.length d']] w (RQE w 0 1 0) := by
 have H1 := Hi h
 have H2 := Hi h2
 have H3 := Hi h3
 have H4 := Hi h4
 have HC1 := Hi hc1
 have HC2 := Hi hc2
 have HL := Hi hL
 have HS := Hi hs
 clear h h2 h3 h4 hc1 hc2 hL hs
 obtain ⟨W1, hW1, hw1, x0, x1, x2⟩ := hdQQq w n A c l m B d k n' A' c' l' m' B' d' k'
 go_enter Tryz.func60, Tryz.ntmps60
 go_wp2_with fail
 rw [← hW1]
 clear hW1
 obtain ⟨C00, C01, C02, C03⟩ := x0.cs
 go_wp2_with fail
 refine (sound_iv (H1.out.below hw1) (H2.out.below hw1) HC1.out).mono ?_
 rintro e w2 ⟨rfl, hb⟩
 clear C00 C01 C02 C03
 replace x0 := x0.below hb
 replace x1 := x1.below hb
 replace x2 := x2.below hb
 have hw1_ := bt hw1 hb
 clear hb hw1
 obtain ⟨C10, C11, C12, C13⟩ := x1.cs
 go_wp2_with fail
 refine (sound_iv (H3.out.below hw1_) (H4.out.below hw1_) HC2.out).mono ?_
 rintro e w3 ⟨rfl, hb⟩
 clear C10 C11 C12 C13
 replace x0 := x0.below hb
 replace x1 := x1.below hb
 replace x2 := x2.below hb
 have hw2_ := bt hw1_ hb
 clear hb hw1_
 obtain ⟨C00, C01, C02, C03⟩ := x0.cs
 obtain ⟨C10, C11, C12, C13⟩ := x1.cs
 go_wp2_with fail
 refine (QCmp_iv (H1.out.below hw2_) (H2.out.below hw2_) (H3.out.below hw2_) (H4.out.below hw2_) (lt_le HL.out.1 (by decide)) (lt_le HL.out.2.1 (by decide)) (lt_le HL.out.2.2.1 (by decide)) (lt_le HL.out.2.2.2 (by decide))).mono ?_
 rintro e w4 ⟨rfl, hb⟩
 clear C00 C01 C02 C03 C10 C11 C12 C13
 replace x0 := x0.below hb
 replace x1 := x1.below hb
 replace x2 := x2.below hb
 have hw3_ := bt hw2_ hb
 clear hb hw2_
 obtain ⟨cv, hcv, hcv0⟩ : ∃ z, cmpI (x * v) (u * y) = z ∧ ¬ 0 < z := ⟨_, rfl, by have := HS.out.1; unfold cmpI; (repeat' split) <;> omega⟩
 rw [hcv]
 clear hcv
 obtain ⟨C00, C01, C02, C03⟩ := x0.cs
 go_wp2_with fail
 refine (QSign_iv (H1.out.below hw3_) (H2.out.below hw3_)).mono ?_
 rintro e w5 ⟨rfl, hb⟩
 clear C00 C01 C02 C03
 replace x0 := x0.below hb
 replace x1 := x1.below hb
 replace x2 := x2.below hb
 have hw4_ := bt hw3_ hb
 clear hb hw3_
 obtain ⟨cv2, hcv2, hcv20⟩ : ∃ z, cmpI x 0 = z ∧ ¬ 0 < z := ⟨_, rfl, by have := HS.out.2.1; unfold cmpI; (repeat' split) <;> omega⟩
 rw [hcv2]
 clear hcv2
 obtain ⟨C10, C11, C12, C13⟩ := x1.cs
 go_wp2_with fail
 refine (QSign_iv (H3.out.below hw4_) (H4.out.below hw4_)).mono ?_
 rintro e w6 ⟨rfl, hb⟩
 clear C10 C11 C12 C13
 replace x0 := x0.below hb
 replace x1 := x1.below hb
 replace x2 := x2.below hb
 have hw5_ := bt hw4_ hb
 clear hb hw4_
 obtain ⟨cv3, hcv3, hcv30⟩ : ∃ z, cmpI u 0 = z ∧ ¬ z < 0 := ⟨_, rfl, by have := HS.out.2.2; unfold cmpI; (repeat' split) <;> omega⟩
 rw [hcv3]
 clear hcv3
 go_wp2_with fail
 refine (QWhole_iv (iv0 _)).mono ?_
 rintro e w7 ⟨n3, A3, c3, l3, n4, A4, c4, l4, rfl, i3, i4, hb⟩
 replace x0 := x0.below hb
 replace x1 := x1.below hb
 replace x2 := x2.below hb
 have hw6_ := bt hw5_ hb
 clear hb hw5_
 have J3 := Hi i3
 have J4 := Hi i4
 clear i3 i4
 obtain ⟨f0, f1, f2, f3⟩ := x2.fr
 obtain ⟨r0, r1, r2, r3⟩ := x2.cs
 go_wp2_with fail
 have z2 := x2.stored (.bool n3) (.slice A3 l3.length c3) (.bool n4) (.slice A4 l4.length c4)
 obtain ⟨k0, k1, k2, k3⟩ := z2.cs
 refine bodyPost_ret (v := .tuple #[.agg #[.bool n3, .slice A3 l3.length c3, .bool n4, .slice A4 l4.length c4], .int .i64 0]) (by simp [results, Tryz.results60, go_sem, k0, k1, k2, k3]) rfl ?_
 exact rqe_store hw6_ (by omega) x2 J3.out J4.out
theorem QSim_neg (h : IV w n A c l x) (h2 : IV w m B d k y) (h3 : IV w n' A' c' l' u) (h4 : IV w m' B' d' k' v) (hc1 : Can x y) (hc2 : Can u v) (hL : Lt 10 x ∧ Lt 10 y ∧ Lt 10 u ∧ Lt 10 v) (hs : x * v ≤ u * y ∧ x ≤ 0 ∧ u < 0) :
  Calls Tryz.prog 60 #[.agg #[.bool n, .slice A l.length c, .bool m, .slice B k.length d], .agg #[.bool n', .slice A' l'.length c', .bool m', .slice B' k'.length d']] w fun e w' => ∃ X Y, Simp (-u) v (-x) y X Y ∧ RQE w (-X) Y 0 e w' := by
 have H1 := Hi h
 have H2 := Hi h2
 have H3 := Hi h3
 have H4 := Hi h4
 have HC1 := Hi hc1
 have HC2 := Hi hc2
 have HL := Hi hL
 have HS := Hi hs
 clear h h2 h3 h4 hc1 hc2 hL hs
 obtain ⟨W1, hW1, hw1, x0, x1, x2⟩ := hdQQq w n A c l m B d k n' A' c' l' m' B' d' k'
 go_enter Tryz.func60, Tryz.ntmps60
 go_wp2_with fail
 rw [← hW1]
 clear hW1
 obtain ⟨C00, C01, C02, C03⟩ := x0.cs
 go_wp2_with fail
 refine (sound_iv (H1.out.below hw1) (H2.out.below hw1) HC1.out).mono ?_
 rintro e w2 ⟨rfl, hb⟩
 clear C00 C01 C02 C03
 replace x0 := x0.below hb
 replace x1 := x1.below hb
 replace x2 := x2.below hb
 have hw1_ := bt hw1 hb
 clear hb hw1
 obtain ⟨C10, C11, C12, C13⟩ := x1.cs
 go_wp2_with fail
 refine (sound_iv (H3.out.below hw1_) (H4.out.below hw1_) HC2.out).mono ?_
 rintro e w3 ⟨rfl, hb⟩
 clear C10 C11 C12 C13
 replace x0 := x0.below hb
 replace x1 := x1.below hb
 replace x2 := x2.below hb
 have hw2_ := bt hw1_ hb
 clear hb hw1_
 obtain ⟨C00, C01, C02, C03⟩ := x0.cs
 obtain ⟨C10, C11, C12, C13⟩ := x1.cs
 go_wp2_with fail
 refine (QCmp_iv (H1.out.below hw2_) (H2.out.below hw2_) (H3.out.below hw2_) (H4.out.below hw2_) (lt_le HL.out.1 (by decide)) (lt_le HL.out.2.1 (by decide)) (lt_le HL.out.2.2.1 (by decide)) (lt_le HL.out.2.2.2 (by decide))).mono ?_
 rintro e w4 ⟨rfl, hb⟩
 clear C00 C01 C02 C03 C10 C11 C12 C13
 replace x0 := x0.below hb
 replace x1 := x1.below hb
 replace x2 := x2.below hb
 have hw3_ := bt hw2_ hb
 clear hb hw2_
 obtain ⟨cv, hcv, hcv0⟩ : ∃ z, cmpI (x * v) (u * y) = z ∧ ¬ 0 < z := ⟨_, rfl, by have := HS.out.1; unfold cmpI; (repeat' split) <;> omega⟩
 rw [hcv]
 clear hcv
 obtain ⟨C00, C01, C02, C03⟩ := x0.cs
 go_wp2_with fail
 refine (QSign_iv (H1.out.below hw3_) (H2.out.below hw3_)).mono ?_
 rintro e w5 ⟨rfl, hb⟩
 clear C00 C01 C02 C03
 replace x0 := x0.below hb
 replace x1 := x1.below hb
 replace x2 := x2.below hb
 have hw4_ := bt hw3_ hb
 clear hb hw3_
 obtain ⟨cv2, hcv2, hcv20⟩ : ∃ z, cmpI x 0 = z ∧ ¬ 0 < z := ⟨_, rfl, by have := HS.out.2.1; unfold cmpI; (repeat' split) <;> omega⟩
 rw [hcv2]
 clear hcv2
 obtain ⟨C10, C11, C12, C13⟩ := x1.cs
 go_wp2_with fail
 refine (QSign_iv (H3.out.below hw4_) (H4.out.below hw4_)).mono ?_
 rintro e w6 ⟨rfl, hb⟩
 clear C10 C11 C12 C13
 replace x0 := x0.below hb
 replace x1 := x1.below hb
 replace x2 := x2.below hb
 have hw5_ := bt hw4_ hb
 clear hb hw4_
 rw [cmpI_neg HS.out.2.2]
 obtain ⟨C00, C01, C02, C03⟩ := x0.cs
 obtain ⟨C10, C11, C12, C13⟩ := x1.cs
 go_wp2_with fail
 have HXN : Hid (0 < -x) := Hi (by
  have h1 := Int.mul_neg_of_neg_of_pos HS.out.2.2 HC1.out.1
  rcases Int.lt_or_le x 0 with h2 | h2
  ·omega
  ·have h3 := Int.mul_nonneg h2 (show 0 ≤ v by have := HC2.out.1; omega)
   have h4 := HS.out.1
   omega)
 have HLE : Hid (-u * y ≤ -x * v) := Hi (by have h1 := HS.out.1; rw [Int.neg_mul, Int.neg_mul]; omega)
 have HUN : Hid (0 < -u) := Hi (by have := HS.out.2.2; omega)
 clear hcv0 hcv20
 have HC := (hj x0.hc x1.hc)
 have HW := Hi hw5_
 have Gx0 := Hi x0
 have Gx1 := Hi x1
 have Gx2 := Hi x2
 clear x0 x1 x2 hw5_
 refine rg0 6 HC fun hHeld => ?_
 refine tk 0 ?_
 refine tk 2 ?_
 refine cl 1 fun K hK => ?_
 go_simp
 go_at_call 44
 refine (QNeg_iv (H3.out.below (bt HW.out (bw (b0 _)))) (H4.out.below (bt HW.out (bw (b0 _))))).mono ?_
 rintro e wa ⟨n5, A5, c5, l5, n6, A6, c6, l6, rfl, i5, i6, hb⟩
 have HBwa := Hi (bt (bw (b0 w6)) hb)
 have I5 := Hi i5
 have I6 := Hi i6
 clear hb i5 i6 hHeld
 refine rk hK (HC.out _ HBwa.out) fun hHeld => ?_
 clear hK K
 refine cl 3 fun K hK => ?_
 go_simp
 go_at_call 44
 refine (QNeg_iv (H1.out.below (bt HW.out HBwa.out)) (H2.out.below (bt HW.out HBwa.out))).mono ?_
 rintro e wb ⟨n7, A7, c7, l7, n8, A8, c8, l8, rfl, i7, i8, hb⟩
 have HBwb := Hi (bt HBwa.out hb)
 have I7 := Hi i7
 have I8 := Hi i8
 have K5 := Hi (I5.out.below hb)
 have K6 := Hi (I6.out.below hb)
 clear hb i7 i8 hHeld
 refine rk hK (HC.out _ HBwb.out) fun hHeld => ?_
 clear hK K
 refine cl 4 fun K hK => ?_
 go_simp
 go_at_call 119
 refine (simplest_iv ⟨HUN.out, HC2.out.1, HXN.out, HC1.out.1, HLE.out⟩ ⟨lt_neg HL.out.2.2.1, HL.out.2.2.2, lt_neg HL.out.1, HL.out.2.1⟩ K5.out K6.out I7.out I8.out).mono ?_
 rintro e wd ⟨X, Y, hX, n9, A9, c9, l9, n10, A10, c10, l10, rfl, i9, i10, hb⟩
 have HBwd := Hi (bt HBwb.out hb)
 have I9 := Hi i9
 have I10 := Hi i10
 have HX := Hi hX
 clear hb i9 i10 hX hHeld
 refine rk hK (HC.out _ HBwd.out) fun hHeld => ?_
 clear hK K
 refine cl 5 fun K hK => ?_
 go_simp
 go_at_call 44
 refine (QNeg_iv I9.out I10.out).mono ?_
 rintro e we ⟨n3, A3, c3, l3, n4, A4, c4, l4, rfl, i3, i4, hb⟩
 have HBwe := Hi (bt HBwd.out hb)
 have J3 := Hi i3
 have J4 := Hi i4
 clear hb i3 i4 hHeld
 refine rk hK (HC.out _ HBwe.out) fun hHeld => ?_
 clear hK K
 refine wpAnyH_done (by kernel_rfl) ?_ _
 simp only [HT]
 clear hHeld
 have x2 := Gx2.out.below HBwe.out
 have hw6_ := bt HW.out HBwe.out
 obtain ⟨f0, f1, f2, f3⟩ := x2.fr
 obtain ⟨r0, r1, r2, r3⟩ := x2.cs
 go_wp2_with fail
 have z2 := x2.stored (.bool n3) (.slice A3 l3.length c3) (.bool n4) (.slice A4 l4.length c4)
 obtain ⟨k0, k1, k2, k3⟩ := z2.cs
 refine bodyPost_ret (v := .tuple #[.agg #[.bool n3, .slice A3 l3.length c3, .bool n4, .slice A4 l4.length c4], .int .i64 0]) (by simp [results, Tryz.results60, go_sem, k0, k1, k2, k3]) rfl ?_
 exact ⟨X, Y, HX.out, rqe_store hw6_ (by omega) x2 J3.out J4.out⟩
end Go.Proofs.YtgljdfblgpdaaaaGreatDoor
