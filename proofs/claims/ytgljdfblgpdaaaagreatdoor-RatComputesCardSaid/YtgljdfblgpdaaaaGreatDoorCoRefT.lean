import Derived.Test.YtgljdfblgpdaaaaGreatDoorPbRefV
import Derived.Test.YtgljdfblgpdaaaaGreatDoorCoRatH
set_option linter.unusedSimpArgs false
set_option linter.unusedVariables false
set_option maxRecDepth 100000
set_option maxHeartbeats 4000000
namespace Go.Proofs.YtgljdfblgpdaaaaGreatDoor
open Go.RowKit Go.Shelf
variable {A B : Option Addr} {c d : Nat} {k l : List Nat} {m n : Bool} {w : World} {x y : Int}
theorem RQSign_iv (h : IV w n A c l x) (h2 : IV w m B d k y) :
  Calls Tryz.prog 41 #[.agg #[.bool n, .slice A l.length c, .bool m, .slice B k.length d]] w fun e w' => e = .returned (.int .i64 (cmpI x 0)) ∧ Below w.heap.size w w' := by
 have H := Hi h
 clear h h2
 go_enter Tryz.func41, Tryz.ntmps41
 go_wp2_with fail
 refine (RSign_iv (H.out.below (ba (b0 _) _)) rfl).mono ?_
 rintro e w1 ⟨rfl, hb⟩
 go_wp2_with fail
 go_ret
 exact ⟨rfl, bt (ba (b0 _) _) hb⟩
theorem RQMul_iv (h : IV w n A c l x) (h2 : IV w m B d k y) {n' m' : Bool} {A' B' : Option Addr} {c' d' : Nat} {l' k' : List Nat} {u v : Int} (h3 : IV w n' A' c' l' u) (h4 : IV w m' B' d' k' v) (hy0 : y ≠ 0) (hv0 : v ≠ 0) (hx : Lt 120 x) (hy : Lt 120 y) (hu : Lt 120 u) (hv : Lt 120 v) :
  Calls Tryz.prog 53 #[.agg #[.bool n, .slice A l.length c, .bool m, .slice B k.length d], .agg #[.bool n', .slice A' l'.length c', .bool m', .slice B' k'.length d']] w (RIQ w (fN (x * u) (y * v)) (fD (x * u) (y * v))) := by
 have H1 := Hi h
 have H2 := Hi h2
 have H3 := Hi h3
 have H4 := Hi h4
 have HD := Hi (Int.mul_ne_zero hy0 hv0)
 have HL := Hi (And.intro hx (And.intro hy (And.intro hu hv)))
 clear h h2 h3 h4 hx hy hu hv hy0 hv0
 have HM1 := Hi (lt_le (lt_mul HL.out.1 HL.out.2.2.1) (show 240 ≤ 300 by decide))
 have HM2 := Hi (lt_le (lt_mul HL.out.2.1 HL.out.2.2.2) (show 240 ≤ 300 by decide))
 obtain ⟨W1, hW1, hw1, x0, x1, x2⟩ := hdQQq w n A c l m B d k n' A' c' l' m' B' d' k'
 go_enter Tryz.func53, Tryz.ntmps53
 go_wp2_with fail
 rw [← hW1]
 clear hW1
 refine g01 ?_
 intros
 have HC := (hj x0.hc x1.hc)
 have HW := Hi hw1
 have Gx0 := Hi x0
 have Gx1 := Hi x1
 have Gx2 := Hi x2
 clear x0 x1 x2 hw1
 refine rg0 11 HC fun hHeld => ?_
 refine tk 0 ?_
 refine tk 1 ?_
 refine tk 2 ?_
 refine tk 3 ?_
 refine tk 5 ?_
 refine tk 6 ?_
 refine tk 7 ?_
 refine tk 8 ?_
 refine cl 4 fun K hK => ?_
 go_simp
 go_at_call 23
 refine (RMul_iv (H1.out.below (bt HW.out (bw (b0 _)))) (H3.out.below (bt HW.out (bw (b0 _)))) rfl HM1.out).mono ?_
 rintro e wa ⟨n1, A1, c1, l1, rfl, i1, hb⟩
 have HBwa := Hi (bt (bw (b0 W1)) hb)
 have HI1 := Hi i1
 clear hb i1 hHeld
 refine rk hK (HC.out _ HBwa.out) fun hHeld => ?_
 clear hK K
 refine cl 9 fun K hK => ?_
 go_simp
 go_at_call 23
 refine (RMul_iv (H2.out.below (bt HW.out HBwa.out)) (H4.out.below (bt HW.out HBwa.out)) rfl HM2.out).mono ?_
 rintro e wb ⟨n2, A2, c2, l2, rfl, i2, hb⟩
 have HBwb := Hi (bt HBwa.out hb)
 have HJ1 := Hi (HI1.out.below hb)
 have HI2 := Hi i2
 clear hb i2 hHeld
 refine rk hK (HC.out _ HBwb.out) fun hHeld => ?_
 clear hK K
 refine cl 10 fun K hK => ?_
 go_simp
 go_at_call 106
 refine (Rover_iv HJ1.out HI2.out HD.out).mono ?_
 rintro e wc1 ⟨n3, A3, c3, l3, n4, A4, c4, l4, rfl, i3, i4, hb⟩
 have HBwc1 := Hi (bt HBwb.out hb)
 have HI3 := Hi i3
 have HI4 := Hi i4
 clear hb i3 i4 hHeld
 refine rk hK (HC.out _ HBwc1.out) fun hHeld => ?_
 clear hK K
 refine wpAnyH_done (by kernel_rfl) ?_ _
 simp only [HT]
 clear hHeld
 have x2 := Gx2.out.below HBwc1.out
 have hw1_ := bt HW.out HBwc1.out
 obtain ⟨f0, f1, f2, f3⟩ := x2.fr
 obtain ⟨r0, r1, r2, r3⟩ := x2.cs
 go_wp2_with fail
 have z2 := x2.stored (.bool n3) (.slice A3 l3.length c3) (.bool n4) (.slice A4 l4.length c4)
 obtain ⟨k0, k1, k2, k3⟩ := z2.cs
 refine bodyPost_ret (v := .agg #[.bool n3, .slice A3 l3.length c3, .bool n4, .slice A4 l4.length c4]) (by simp [results, Tryz.results53, go_sem, k0, k1, k2, k3]) rfl ?_
 exact riq_store hw1_ (by omega) x2 HI3.out HI4.out
theorem RQNeg_iv (h : IV w n A c l x) (h2 : IV w m B d k y) :
  Calls Tryz.prog 45 #[.agg #[.bool n, .slice A l.length c, .bool m, .slice B k.length d]] w (RIQ w (-x) y) := by
 have HL := Hi (lt_neg (lt_le (lt_val h.ws h.val) h.len))
 have H1 := Hi h
 have H2 := Hi h2
 clear h h2
 obtain ⟨W1, hW1, hw1, x0, x1⟩ := hdQq w n A c l m B d k
 go_enter Tryz.func45, Tryz.ntmps45
 go_wp2_with fail
 rw [← hW1]
 clear hW1
 refine g0 ?_
 intros
 have HC := x0.hc
 have HW := Hi hw1
 have Gx0 := Hi x0
 have Gx1 := Hi x1
 clear x0 x1 hw1
 refine rg0 6 HC fun hHeld => ?_
 refine tk 0 ?_
 refine tk 1 ?_
 refine tk 3 ?_
 refine tk 4 ?_
 refine cl 2 fun K hK => ?_
 go_simp
 go_at_call 100
 refine (RNeg_iv (H1.out.below (bt HW.out (bw (b0 _)))) rfl HL.out).mono ?_
 rintro e w2 ⟨n1, A1, c1, l1, rfl, i1, hb⟩
 have HBw2 := Hi (bt (bw (b0 W1)) hb)
 have HI1 := Hi i1
 clear hb i1 hHeld
 refine rk hK (HC.out _ HBw2.out) fun hHeld => ?_
 clear hK K
 refine tk 5 ?_
 refine wpAnyH_done (by kernel_rfl) ?_ _
 simp only [HT]
 clear hHeld
 have x1 := Gx1.out.below HBw2.out
 have hw1_ := bt HW.out HBw2.out
 obtain ⟨f0, f1, f2, f3⟩ := x1.fr
 obtain ⟨r0, r1, r2, r3⟩ := x1.cs
 go_wp2_with fail
 have z2 := x1.stored (.bool n1) (.slice A1 l1.length c1) (.bool m) (.slice B k.length d)
 obtain ⟨k0, k1, k2, k3⟩ := z2.cs
 refine bodyPost_ret (v := .agg #[.bool n1, .slice A1 l1.length c1, .bool m, .slice B k.length d]) (by simp [results, Tryz.results45, go_sem, k0, k1, k2, k3]) rfl ?_
 exact riq_store hw1_ (by omega) x1 HI1.out (H2.out.below hw1_)
open Go.RowKit Go.Shelf
variable {A A' B B' : Option Addr} {c c' d d' : Nat} {k k' l l' : List Nat} {m m' n n' : Bool} {u v x y : Int} {w : World}
theorem RQWhole_iv (h : IV w n A c l x) :
  Calls Tryz.prog 34 #[.agg #[.bool n, .slice A l.length c]] w (RIQ w x 1) := by
 have H1 := Hi h
 clear h
 obtain ⟨W1, hW1, hw1, x0, x1⟩ := hdIq w n A c l
 go_enter Tryz.func34, Tryz.ntmps34
 go_wp2_with fail
 rw [← hW1]
 clear hW1
 refine g0i ?_
 intros
 have HC := x0.hc
 have HW := Hi hw1
 have Gx0 := Hi x0
 have Gx1 := Hi x1
 clear x0 x1 hw1
 refine rg0 3 HC fun hHeld => ?_
 refine tk 0 ?_
 refine cl 1 fun K hK => ?_
 go_simp
 go_at_call 107
 refine (Rone_iv _).mono ?_
 rintro e w2 ⟨n1, A1, c1, l1, rfl, i1, hb⟩
 have HBw2 := Hi (bt (bw (b0 W1)) hb)
 have HI1 := Hi i1
 clear hb i1 hHeld
 refine rk hK (HC.out _ HBw2.out) fun hHeld => ?_
 clear hK K
 refine tk 2 ?_
 refine wpAnyH_done (by kernel_rfl) ?_ _
 simp only [HT]
 clear hHeld
 have x1 := Gx1.out.below HBw2.out
 have hw1_ := bt HW.out HBw2.out
 obtain ⟨f0, f1, f2, f3⟩ := x1.fr
 obtain ⟨r0, r1, r2, r3⟩ := x1.cs
 go_wp2_with fail
 have z2 := x1.stored (.bool n) (.slice A l.length c) (.bool n1) (.slice A1 l1.length c1)
 obtain ⟨k0, k1, k2, k3⟩ := z2.cs
 refine bodyPost_ret (v := .agg #[.bool n, .slice A l.length c, .bool n1, .slice A1 l1.length c1]) (by simp [results, Tryz.results34, go_sem, k0, k1, k2, k3]) rfl ?_
 exact riq_store hw1_ (by omega) x1 (H1.out.below hw1_) HI1.out
theorem RQAdd_11 (h : IV w n A c l x) (h2 : IV w m B d k y) (h3 : IV w n' A' c' l' u) (h4 : IV w m' B' d' k' v) (hy0 : y ≠ 0) (hv0 : v ≠ 0) (hx : Lt 120 x) (hy : Lt 120 y) (hu : Lt 120 u) (hv : Lt 120 v) (ho : y = 1 ∧ v = 1) :
  Calls Tryz.prog 49 #[.agg #[.bool n, .slice A l.length c, .bool m, .slice B k.length d], .agg #[.bool n', .slice A' l'.length c', .bool m', .slice B' k'.length d']] w (RIQ w (fN (x * v + u * y) (y * v)) (fD (x * v + u * y) (y * v))) := by
 have H1 := Hi h
 have H2 := Hi h2
 have H3 := Hi h3
 have H4 := Hi h4
 have HD := Hi (Int.mul_ne_zero hy0 hv0)
 have HL := Hi (And.intro hx (And.intro hy (And.intro hu hv)))
 clear h h2 h3 h4 hx hy hu hv hy0 hv0
 have HO := Hi ho
 clear ho
 obtain ⟨W1, hW1, hw1, x0, x1, x2⟩ := hdQQq w n A c l m B d k n' A' c' l' m' B' d' k'
 go_enter Tryz.func49, Tryz.ntmps49
 go_wp2_with fail
 rw [← hW1]
 clear hW1
 refine (RisOne_iv (H2.out.below hw1)).mono ?_
 rintro e wa ⟨rfl, hb⟩
 replace x0 := x0.below hb
 replace x1 := x1.below hb
 replace x2 := x2.below hb
 have hw1_ := bt hw1 hb
 clear hb hw1
 rw [show decide (y = 1) = true from decide_eq_true HO.out.1]
 refine g01 ?_
 intros
 refine (RisOne_iv (H4.out.below hw1_)).mono ?_
 rintro e wb ⟨rfl, hb⟩
 replace x0 := x0.below hb
 replace x1 := x1.below hb
 replace x2 := x2.below hb
 have hw2_ := bt hw1_ hb
 clear hb hw1_
 rw [show decide (v = 1) = true from decide_eq_true HO.out.2]
 refine g01 ?_
 intros
 have HLA := Hi (lt_le (lt_add HL.out.1 HL.out.2.2.1) (show 241 ≤ 300 by decide))
 have HC := (hj x0.hc x1.hc)
 have HW := Hi hw2_
 have Gx0 := Hi x0
 have Gx1 := Hi x1
 have Gx2 := Hi x2
 clear x0 x1 x2 hw2_
 refine rg0 8 HC fun hHeld => ?_
 refine tk 0 ?_
 refine tk 1 ?_
 refine tk 2 ?_
 refine tk 3 ?_
 refine tk 5 ?_
 refine tk 6 ?_
 refine cl 4 fun K hK => ?_
 go_simp
 go_at_call 19
 refine (RAdd_iv (H1.out.below (bt HW.out (bw (b0 _)))) (H3.out.below (bt HW.out (bw (b0 _)))) rfl HLA.out).mono ?_
 rintro e wc1 ⟨n1, A1, c1, l1, rfl, i1, hb⟩
 have HBwc1 := Hi (bt (bw (b0 wb)) hb)
 have HI1 := Hi i1
 clear hb i1 hHeld
 refine rk hK (HC.out _ HBwc1.out) fun hHeld => ?_
 clear hK K
 refine tk 7 ?_
 refine wpAnyH_done (by kernel_rfl) ?_ _
 simp only [HT]
 clear hHeld
 have x2 := Gx2.out.below HBwc1.out
 have hw3_ := bt HW.out HBwc1.out
 have hq := f_can (can_one (x + u))
 have e1 : fN (x * v + u * y) (y * v) = x + u := by rw [HO.out.1, HO.out.2, Int.mul_one, Int.mul_one, Int.mul_one]; exact hq.1
 have e2 : fD (x * v + u * y) (y * v) = y := by rw [HO.out.1, HO.out.2, Int.mul_one, Int.mul_one, Int.mul_one]; exact hq.2
 have j1 : IV wc1 n1 A1 c1 l1 (fN (x * v + u * y) (y * v)) := by rw [e1]; exact HI1.out
 have j2 : IV wc1 m B d k (fD (x * v + u * y) (y * v)) := by rw [e2]; exact H2.out.below hw3_
 clear hq e1 e2
 obtain ⟨f0, f1, f2, f3⟩ := x2.fr
 obtain ⟨r0, r1, r2, r3⟩ := x2.cs
 go_wp2_with fail
 have z2 := x2.stored (.bool n1) (.slice A1 l1.length c1) (.bool m) (.slice B k.length d)
 obtain ⟨k0, k1, k2, k3⟩ := z2.cs
 refine bodyPost_ret (v := .agg #[.bool n1, .slice A1 l1.length c1, .bool m, .slice B k.length d]) (by simp [results, Tryz.results49, go_sem, k0, k1, k2, k3]) rfl ?_
 exact riq_store hw3_ (by omega) x2 j1 j2
theorem RQAdd_10 (h : IV w n A c l x) (h2 : IV w m B d k y) (h3 : IV w n' A' c' l' u) (h4 : IV w m' B' d' k' v) (hy0 : y ≠ 0) (hv0 : v ≠ 0) (hx : Lt 120 x) (hy : Lt 120 y) (hu : Lt 120 u) (hv : Lt 120 v) (ho : y = 1 ∧ v ≠ 1) :
  Calls Tryz.prog 49 #[.agg #[.bool n, .slice A l.length c, .bool m, .slice B k.length d], .agg #[.bool n', .slice A' l'.length c', .bool m', .slice B' k'.length d']] w (RIQ w (fN (x * v + u * y) (y * v)) (fD (x * v + u * y) (y * v))) := by
 have H1 := Hi h
 have H2 := Hi h2
 have H3 := Hi h3
 have H4 := Hi h4
 have HD := Hi (Int.mul_ne_zero hy0 hv0)
 have HL := Hi (And.intro hx (And.intro hy (And.intro hu hv)))
 clear h h2 h3 h4 hx hy hu hv hy0 hv0
 have HO := Hi ho
 clear ho
 obtain ⟨W1, hW1, hw1, x0, x1, x2⟩ := hdQQq w n A c l m B d k n' A' c' l' m' B' d' k'
 go_enter Tryz.func49, Tryz.ntmps49
 go_wp2_with fail
 rw [← hW1]
 clear hW1
 refine (RisOne_iv (H2.out.below hw1)).mono ?_
 rintro e wa ⟨rfl, hb⟩
 replace x0 := x0.below hb
 replace x1 := x1.below hb
 replace x2 := x2.below hb
 have hw1_ := bt hw1 hb
 clear hb hw1
 rw [show decide (y = 1) = true from decide_eq_true HO.out.1]
 refine g01 ?_
 intros
 refine (RisOne_iv (H4.out.below hw1_)).mono ?_
 rintro e wb ⟨rfl, hb⟩
 replace x0 := x0.below hb
 replace x1 := x1.below hb
 replace x2 := x2.below hb
 have hw2_ := bt hw1_ hb
 clear hb hw1_
 rw [show decide (v = 1) = false from decide_eq_false HO.out.2]
 refine g01 ?_
 intros
 have HM1 := Hi (lt_mul HL.out.1 HL.out.2.2.2)
 have HM2 := Hi (lt_mul HL.out.2.2.1 HL.out.2.1)
 have HLN := Hi (lt_le (lt_add1 HM1.out HM2.out) (show 241 ≤ 300 by decide))
 have HM3 := Hi (lt_le (lt_mul HL.out.2.1 HL.out.2.2.2) (show 240 ≤ 300 by decide))
 replace HM1 := Hi (lt_le HM1.out (show 240 ≤ 300 by decide))
 replace HM2 := Hi (lt_le HM2.out (show 240 ≤ 300 by decide))
 have HC := (hj x0.hc x1.hc)
 have HW := Hi hw2_
 have Gx0 := Hi x0
 have Gx1 := Hi x1
 have Gx2 := Hi x2
 clear x0 x1 x2 hw2_
 refine rg0 17 HC fun hHeld => ?_
 refine tk 0 ?_
 refine tk 1 ?_
 refine tk 2 ?_
 refine tk 3 ?_
 refine tk 5 ?_
 refine tk 6 ?_
 refine tk 7 ?_
 refine tk 8 ?_
 refine tk 11 ?_
 refine tk 12 ?_
 refine tk 13 ?_
 refine tk 14 ?_
 refine cl 4 fun K hK => ?_
 go_simp
 go_at_call 23
 refine (RMul_iv (H1.out.below (bt HW.out (bw (b0 _)))) (H4.out.below (bt HW.out (bw (b0 _)))) rfl HM1.out).mono ?_
 rintro e wd ⟨n1, A1, c1, l1, rfl, i1, hb⟩
 have HBwd := Hi (bt (bw (b0 wb)) hb)
 have HI1 := Hi i1
 clear hb i1 hHeld
 refine rk hK (HC.out _ HBwd.out) fun hHeld => ?_
 clear hK K
 refine cl 9 fun K hK => ?_
 go_simp
 go_at_call 23
 refine (RMul_iv (H3.out.below (bt HW.out HBwd.out)) (H2.out.below (bt HW.out HBwd.out)) rfl HM2.out).mono ?_
 rintro e we ⟨n2, A2, c2, l2, rfl, i2, hb⟩
 have HBwe := Hi (bt HBwd.out hb)
 have HJ1 := Hi (HI1.out.below hb)
 have HI2 := Hi i2
 clear hb i2 hHeld
 refine rk hK (HC.out _ HBwe.out) fun hHeld => ?_
 clear hK K
 refine cl 10 fun K hK => ?_
 go_simp
 go_at_call 19
 refine (RAdd_iv HJ1.out HI2.out rfl HLN.out).mono ?_
 rintro e wf ⟨n3, A3, c3, l3, rfl, i3, hb⟩
 have HBwf := Hi (bt HBwe.out hb)
 have HI3 := Hi i3
 clear hb i3 hHeld
 refine rk hK (HC.out _ HBwf.out) fun hHeld => ?_
 clear hK K
 refine cl 15 fun K hK => ?_
 go_simp
 go_at_call 23
 refine (RMul_iv (H2.out.below (bt HW.out HBwf.out)) (H4.out.below (bt HW.out HBwf.out)) rfl HM3.out).mono ?_
 rintro e wg ⟨n4, A4, c4, l4, rfl, i4, hb⟩
 have HBwg := Hi (bt HBwf.out hb)
 have HJ3 := Hi (HI3.out.below hb)
 have HI4 := Hi i4
 clear hb i4 hHeld
 refine rk hK (HC.out _ HBwg.out) fun hHeld => ?_
 clear hK K
 refine cl 16 fun K hK => ?_
 go_simp
 go_at_call 106
 refine (Rover_iv HJ3.out HI4.out HD.out).mono ?_
 rintro e wh ⟨n5, A5, c5, l5, n6, A6, c6, l6, rfl, i5, i6, hb⟩
 have HBwh := Hi (bt HBwg.out hb)
 have HI5 := Hi i5
 have HI6 := Hi i6
 clear hb i5 i6 hHeld
 refine rk hK (HC.out _ HBwh.out) fun hHeld => ?_
 clear hK K
 refine wpAnyH_done (by kernel_rfl) ?_ _
 simp only [HT]
 clear hHeld
 have x2 := Gx2.out.below HBwh.out
 have hw3_ := bt HW.out HBwh.out
 obtain ⟨f0, f1, f2, f3⟩ := x2.fr
 obtain ⟨r0, r1, r2, r3⟩ := x2.cs
 go_wp2_with fail
 have z2 := x2.stored (.bool n5) (.slice A5 l5.length c5) (.bool n6) (.slice A6 l6.length c6)
 obtain ⟨k0, k1, k2, k3⟩ := z2.cs
 refine bodyPost_ret (v := .agg #[.bool n5, .slice A5 l5.length c5, .bool n6, .slice A6 l6.length c6]) (by simp [results, Tryz.results49, go_sem, k0, k1, k2, k3]) rfl ?_
 exact riq_store hw3_ (by omega) x2 HI5.out HI6.out
theorem RQAdd_0 (h : IV w n A c l x) (h2 : IV w m B d k y) (h3 : IV w n' A' c' l' u) (h4 : IV w m' B' d' k' v) (hy0 : y ≠ 0) (hv0 : v ≠ 0) (hx : Lt 120 x) (hy : Lt 120 y) (hu : Lt 120 u) (hv : Lt 120 v) (ho : y ≠ 1) :
  Calls Tryz.prog 49 #[.agg #[.bool n, .slice A l.length c, .bool m, .slice B k.length d], .agg #[.bool n', .slice A' l'.length c', .bool m', .slice B' k'.length d']] w (RIQ w (fN (x * v + u * y) (y * v)) (fD (x * v + u * y) (y * v))) := by
 have H1 := Hi h
 have H2 := Hi h2
 have H3 := Hi h3
 have H4 := Hi h4
 have HD := Hi (Int.mul_ne_zero hy0 hv0)
 have HL := Hi (And.intro hx (And.intro hy (And.intro hu hv)))
 clear h h2 h3 h4 hx hy hu hv hy0 hv0
 have HO := Hi ho
 clear ho
 obtain ⟨W1, hW1, hw1, x0, x1, x2⟩ := hdQQq w n A c l m B d k n' A' c' l' m' B' d' k'
 go_enter Tryz.func49, Tryz.ntmps49
 go_wp2_with fail
 rw [← hW1]
 clear hW1
 refine (RisOne_iv (H2.out.below hw1)).mono ?_
 rintro e wa ⟨rfl, hb⟩
 replace x0 := x0.below hb
 replace x1 := x1.below hb
 replace x2 := x2.below hb
 have hw1_ := bt hw1 hb
 clear hb hw1
 rw [show decide (y = 1) = false from decide_eq_false HO.out]
 refine g01 ?_
 intros
 have HM1 := Hi (lt_mul HL.out.1 HL.out.2.2.2)
 have HM2 := Hi (lt_mul HL.out.2.2.1 HL.out.2.1)
 have HLN := Hi (lt_le (lt_add1 HM1.out HM2.out) (show 241 ≤ 300 by decide))
 have HM3 := Hi (lt_le (lt_mul HL.out.2.1 HL.out.2.2.2) (show 240 ≤ 300 by decide))
 replace HM1 := Hi (lt_le HM1.out (show 240 ≤ 300 by decide))
 replace HM2 := Hi (lt_le HM2.out (show 240 ≤ 300 by decide))
 have HC := (hj x0.hc x1.hc)
 have HW := Hi hw1_
 have Gx0 := Hi x0
 have Gx1 := Hi x1
 have Gx2 := Hi x2
 clear x0 x1 x2 hw1_
 refine rg0 17 HC fun hHeld => ?_
 refine tk 0 ?_
 refine tk 1 ?_
 refine tk 2 ?_
 refine tk 3 ?_
 refine tk 5 ?_
 refine tk 6 ?_
 refine tk 7 ?_
 refine tk 8 ?_
 refine tk 11 ?_
 refine tk 12 ?_
 refine tk 13 ?_
 refine tk 14 ?_
 refine cl 4 fun K hK => ?_
 go_simp
 go_at_call 23
 refine (RMul_iv (H1.out.below (bt HW.out (bw (b0 _)))) (H4.out.below (bt HW.out (bw (b0 _)))) rfl HM1.out).mono ?_
 rintro e wd ⟨n1, A1, c1, l1, rfl, i1, hb⟩
 have HBwd := Hi (bt (bw (b0 wa)) hb)
 have HI1 := Hi i1
 clear hb i1 hHeld
 refine rk hK (HC.out _ HBwd.out) fun hHeld => ?_
 clear hK K
 refine cl 9 fun K hK => ?_
 go_simp
 go_at_call 23
 refine (RMul_iv (H3.out.below (bt HW.out HBwd.out)) (H2.out.below (bt HW.out HBwd.out)) rfl HM2.out).mono ?_
 rintro e we ⟨n2, A2, c2, l2, rfl, i2, hb⟩
 have HBwe := Hi (bt HBwd.out hb)
 have HJ1 := Hi (HI1.out.below hb)
 have HI2 := Hi i2
 clear hb i2 hHeld
 refine rk hK (HC.out _ HBwe.out) fun hHeld => ?_
 clear hK K
 refine cl 10 fun K hK => ?_
 go_simp
 go_at_call 19
 refine (RAdd_iv HJ1.out HI2.out rfl HLN.out).mono ?_
 rintro e wf ⟨n3, A3, c3, l3, rfl, i3, hb⟩
 have HBwf := Hi (bt HBwe.out hb)
 have HI3 := Hi i3
 clear hb i3 hHeld
 refine rk hK (HC.out _ HBwf.out) fun hHeld => ?_
 clear hK K
 refine cl 15 fun K hK => ?_
 go_simp
 go_at_call 23
 refine (RMul_iv (H2.out.below (bt HW.out HBwf.out)) (H4.out.below (bt HW.out HBwf.out)) rfl HM3.out).mono ?_
 rintro e wg ⟨n4, A4, c4, l4, rfl, i4, hb⟩
 have HBwg := Hi (bt HBwf.out hb)
 have HJ3 := Hi (HI3.out.below hb)
 have HI4 := Hi i4
 clear hb i4 hHeld
 refine rk hK (HC.out _ HBwg.out) fun hHeld => ?_
 clear hK K
 refine cl 16 fun K hK => ?_
 go_simp
 go_at_call 106
 refine (Rover_iv HJ3.out HI4.out HD.out).mono ?_
 rintro e wh ⟨n5, A5, c5, l5, n6, A6, c6, l6, rfl, i5, i6, hb⟩
 have HBwh := Hi (bt HBwg.out hb)
 have HI5 := Hi i5
 have HI6 := Hi i6
 clear hb i5 i6 hHeld
 refine rk hK (HC.out _ HBwh.out) fun hHeld => ?_
 clear hK K
 refine wpAnyH_done (by kernel_rfl) ?_ _
 simp only [HT]
 clear hHeld
 have x2 := Gx2.out.below HBwh.out
 have hw2_ := bt HW.out HBwh.out
 obtain ⟨f0, f1, f2, f3⟩ := x2.fr
 obtain ⟨r0, r1, r2, r3⟩ := x2.cs
 go_wp2_with fail
 have z2 := x2.stored (.bool n5) (.slice A5 l5.length c5) (.bool n6) (.slice A6 l6.length c6)
 obtain ⟨k0, k1, k2, k3⟩ := z2.cs
 refine bodyPost_ret (v := .agg #[.bool n5, .slice A5 l5.length c5, .bool n6, .slice A6 l6.length c6]) (by simp [results, Tryz.results49, go_sem, k0, k1, k2, k3]) rfl ?_
 exact riq_store hw2_ (by omega) x2 HI5.out HI6.out
theorem RQAdd_iv (h : IV w n A c l x) (h2 : IV w m B d k y) (h3 : IV w n' A' c' l' u) (h4 : IV w m' B' d' k' v) (hy0 : y ≠ 0) (hv0 : v ≠ 0) (hx : Lt 120 x) (hy : Lt 120 y) (hu : Lt 120 u) (hv : Lt 120 v) :
  Calls Tryz.prog 49 #[.agg #[.bool n, .slice A l.length c, .bool m, .slice B k.length d], .agg #[.bool n', .slice A' l'.length c', .bool m', .slice B' k'.length d']] w (RIQ w (fN (x * v + u * y) (y * v)) (fD (x * v + u * y) (y * v))) := by
 by_cases h5 : y = 1
 ·by_cases h6 : v = 1
  ·exact RQAdd_11 h h2 h3 h4 hy0 hv0 hx hy hu hv ⟨h5, h6⟩
  ·exact RQAdd_10 h h2 h3 h4 hy0 hv0 hx hy hu hv ⟨h5, h6⟩
 ·exact RQAdd_0 h h2 h3 h4 hy0 hv0 hx hy hu hv h5
theorem RQSub_iv (h : IV w n A c l x) (h2 : IV w m B d k y) (h3 : IV w n' A' c' l' u) (h4 : IV w m' B' d' k' v) (hy0 : y ≠ 0) (hv0 : v ≠ 0) (hx : Lt 120 x) (hy : Lt 120 y) (hu : Lt 120 u) (hv : Lt 120 v) :
  Calls Tryz.prog 51 #[.agg #[.bool n, .slice A l.length c, .bool m, .slice B k.length d], .agg #[.bool n', .slice A' l'.length c', .bool m', .slice B' k'.length d']] w (RIQ w (fN (x * v - u * y) (y * v)) (fD (x * v - u * y) (y * v))) := by
 have H1 := Hi h
 have H2 := Hi h2
 have H3 := Hi h3
 have H4 := Hi h4
 have HY := Hi hy0
 have HV := Hi hv0
 have HL := Hi (And.intro hx (And.intro hy (And.intro hu hv)))
 clear h h2 h3 h4 hx hy hu hv hy0 hv0
 obtain ⟨W1, hW1, hw1, x0, x1, x2⟩ := hdQQq w n A c l m B d k n' A' c' l' m' B' d' k'
 go_enter Tryz.func51, Tryz.ntmps51
 go_wp2_with fail
 rw [← hW1]
 clear hW1
 refine g01 ?_
 intros
 have HC := (hj x0.hc x1.hc)
 have HW := Hi hw1
 have Gx0 := Hi x0
 have Gx1 := Hi x1
 have Gx2 := Hi x2
 clear x0 x1 x2 hw1
 refine rg0 4 HC fun hHeld => ?_
 refine tk 0 ?_
 refine tk 1 ?_
 refine cl 2 fun K hK => ?_
 go_simp
 go_at_call 45
 refine (RQNeg_iv (H3.out.below (bt HW.out (bw (b0 _)))) (H4.out.below (bt HW.out (bw (b0 _))))).mono ?_
 rintro e wa ⟨n1, A1, c1, l1, n2, A2, c2, l2, rfl, i1, i2, hb⟩
 have HBwa := Hi (bt (bw (b0 W1)) hb)
 have HI1 := Hi i1
 have HI2 := Hi i2
 clear hb i1 i2 hHeld
 refine rk hK (HC.out _ HBwa.out) fun hHeld => ?_
 clear hK K
 refine cl 3 fun K hK => ?_
 go_simp
 go_at_call 49
 refine (RQAdd_iv (H1.out.below (bt HW.out HBwa.out)) (H2.out.below (bt HW.out HBwa.out)) HI1.out HI2.out HY.out HV.out HL.out.1 HL.out.2.1 (lt_neg HL.out.2.2.1) HL.out.2.2.2).mono ?_
 rintro e wb ⟨n3, A3, c3, l3, n4, A4, c4, l4, rfl, i3, i4, hb⟩
 have HBwb := Hi (bt HBwa.out hb)
 have HI3 := Hi i3
 have HI4 := Hi i4
 clear hb i3 i4 hHeld
 refine rk hK (HC.out _ HBwb.out) fun hHeld => ?_
 clear hK K
 refine wpAnyH_done (by kernel_rfl) ?_ _
 simp only [HT]
 clear hHeld
 have x2 := Gx2.out.below HBwb.out
 have hw1_ := bt HW.out HBwb.out
 have j1 := HI3.out
 have j2 := HI4.out
 rw [Int.neg_mul, ← Int.sub_eq_add_neg] at j1 j2
 obtain ⟨f0, f1, f2, f3⟩ := x2.fr
 obtain ⟨r0, r1, r2, r3⟩ := x2.cs
 go_wp2_with fail
 have z2 := x2.stored (.bool n3) (.slice A3 l3.length c3) (.bool n4) (.slice A4 l4.length c4)
 obtain ⟨k0, k1, k2, k3⟩ := z2.cs
 refine bodyPost_ret (v := .agg #[.bool n3, .slice A3 l3.length c3, .bool n4, .slice A4 l4.length c4]) (by simp [results, Tryz.results51, go_sem, k0, k1, k2, k3]) rfl ?_
 exact riq_store hw1_ (by omega) x2 j1 j2
open Go.RowKit
theorem m09bf8 {P : Prop} (h : P := by
 rintro e w2 ⟨rfl, hb2⟩
 rw [HQ.out]
 have d0 := (y0.below hb2).cell0
 have d1 := (y0.below hb2).cell1
 have d2 := (y1.below hb2).cell0
 have d3 := (y1.below hb2).cell1
 have hw2 := bt (bt hw1 hb) hb2
 go_wp2_with fail
 refine (RcmpWords_any A B _ c _ d l k _ rfl rfl (by omega) (by omega) (isB_top HP.out) (isB_top HQ.out) (hl.below hw2) (hk.below hw2)).mono ?_
 rintro e w3 ⟨rfl, hb3⟩
 have g0 := ((y0.below hb2).below hb3).cell0
 go_wp2_with fail
 go_ret
 exact ⟨rfl, bt hw2 hb3⟩) : P := h
theorem mbdea7 {P : Prop} (h : P := by
 rintro e w2 ⟨rfl, hb2⟩
 rw [HQ.out]
 have d0 := (y0.below hb2).cell0
 have d1 := (y0.below hb2).cell1
 have d2 := (y1.below hb2).cell0
 have d3 := (y1.below hb2).cell1
 have hw2 := bt (bt hw1 hb) hb2
 go_wp2_with fail
 go_ret
 exact ⟨rfl, hw2⟩) : P := h
theorem RCmp_any (na nb : Bool) (A B : Option Addr) (n c m d : Nat) (l k : List Nat) (p q : Bool) (w : World) (hn : l.length = n) (hm : k.length = m) (hnm : n ≤ 1000000) (hmm : m ≤ 1000000) (hl : WS w A l) (hk : WS w B k) (hp : isB na l = p) (hq : isB nb k = q) :
  Calls Tryz.prog 61 #[.agg #[.bool na, .slice A n c], .agg #[.bool nb, .slice B m d]] w fun e w' => e = .returned (.int .i64 (if p && q then cmpI (zI na l) (zI nb k) else 0)) ∧ Below w.heap.size w w' := by
 subst hn hm
 have HP := Hi hp
 have HQ := Hi hq
 clear hp hq
 cases p
 ·rw [if_neg (by simp)]
  go_enter Tryz.func61, Tryz.ntmps61
  go_wp2_with fail
  refine (RIs_any na A _ c l _ rfl (by omega) (hl.below (ba (ba (b0 _) _) _))).mono ?_
  rintro e w1 ⟨rfl, hb⟩
  rw [HP.out]
  go_wp2_with fail
  go_ret
  exact ⟨rfl, bt (ba (ba (b0 _) _) _) hb⟩
 ·cases q
  ·rw [if_neg (by simp)]
   go_enter Tryz.func61, Tryz.ntmps61
   go_wp2_with fail
   obtain ⟨W1, hW1⟩ : ∃ W, W = (w.alloc (.cells #[.bool na, .slice A l.length c] 24)).alloc (.cells #[.bool nb, .slice B k.length d] 24) := ⟨_, rfl⟩
   have x0 : Box2 W1 w.heap.size (.bool na) (.slice A l.length c) := by rw [hW1]; exact (Box2.new w _ _).alloc _
   have x1 : Box2 W1 (w.heap.size + 1) (.bool nb) (.slice B k.length d) := by
    rw [hW1]
    have h := Box2.new (w.alloc (.cells #[.bool na, .slice A l.length c] 24)) (.bool nb) (.slice B k.length d)
    rwa [World.size_alloc] at h
   have hw1 : Below w.heap.size w W1 := by rw [hW1]; exact ba (ba (b0 _) _) _
   rw [← hW1]
   clear hW1
   refine (RIs_any na A _ c l _ rfl (by omega) (hl.below hw1)).mono ?_
   rintro e w1 ⟨rfl, hb⟩
   rw [HP.out]
   have y0 := x0.below hb
   have y1 := x1.below hb
   obtain ⟨c0, c1⟩ := y0.cs
   obtain ⟨c2, c3⟩ := y1.cs
   go_wp2_with fail
   refine (RIs_any nb B _ d k _ rfl (by omega) (hk.below (bt hw1 hb))).mono ?_
   rintro e w2 ⟨rfl, hb2⟩
   rw [HQ.out]
   go_wp2_with fail
   go_ret
   exact ⟨rfl, bt (bt hw1 hb) hb2⟩
  ·rw [if_pos (by rfl), ← cmpS_eq HP.out HQ.out]
   have hcb := cmpN_lo (val l) (val k)
   have hsw := cmpN_swap (val l) (val k)
   have hww : IntKind.i64.wrap (cmpN (val k) (val l)) = cmpN (val k) (val l) := IntWalk.i64_in _ (by have := cmpN_lo (val k) (val l); omega)
   cases na <;> cases nb
   ·show Calls _ _ _ _ fun e w' => e = .returned (.int .i64 (cmpN (val l) (val k))) ∧ _
    go_enter Tryz.func61, Tryz.ntmps61
    go_wp2_with fail
    obtain ⟨W1, hW1⟩ : ∃ W, W = (w.alloc (.cells #[.bool false, .slice A l.length c] 24)).alloc (.cells #[.bool false, .slice B k.length d] 24) := ⟨_, rfl⟩
    have x0 : Box2 W1 w.heap.size (.bool false) (.slice A l.length c) := by rw [hW1]; exact (Box2.new w _ _).alloc _
    have x1 : Box2 W1 (w.heap.size + 1) (.bool false) (.slice B k.length d) := by
     rw [hW1]
     have h := Box2.new (w.alloc (.cells #[.bool false, .slice A l.length c] 24)) (.bool false) (.slice B k.length d)
     rwa [World.size_alloc] at h
    have hw1 : Below w.heap.size w W1 := by rw [hW1]; exact ba (ba (b0 _) _) _
    rw [← hW1]
    clear hW1
    refine (RIs_any false A _ c l _ rfl (by omega) (hl.below hw1)).mono ?_
    rintro e w1 ⟨rfl, hb⟩
    rw [HP.out]
    have y0 := x0.below hb
    have y1 := x1.below hb
    obtain ⟨c0, c1⟩ := y0.cs
    obtain ⟨c2, c3⟩ := y1.cs
    go_wp2_with fail
    refine (RIs_any false B _ d k _ rfl (by omega) (hk.below (bt hw1 hb))).mono ?_
    exact m09bf8
   ·show Calls _ _ _ _ fun e w' => e = .returned (.int .i64 (1)) ∧ _
    go_enter Tryz.func61, Tryz.ntmps61
    go_wp2_with fail
    obtain ⟨W1, hW1⟩ : ∃ W, W = (w.alloc (.cells #[.bool false, .slice A l.length c] 24)).alloc (.cells #[.bool true, .slice B k.length d] 24) := ⟨_, rfl⟩
    have x0 : Box2 W1 w.heap.size (.bool false) (.slice A l.length c) := by rw [hW1]; exact (Box2.new w _ _).alloc _
    have x1 : Box2 W1 (w.heap.size + 1) (.bool true) (.slice B k.length d) := by
     rw [hW1]
     have h := Box2.new (w.alloc (.cells #[.bool false, .slice A l.length c] 24)) (.bool true) (.slice B k.length d)
     rwa [World.size_alloc] at h
    have hw1 : Below w.heap.size w W1 := by rw [hW1]; exact ba (ba (b0 _) _) _
    rw [← hW1]
    clear hW1
    refine (RIs_any false A _ c l _ rfl (by omega) (hl.below hw1)).mono ?_
    rintro e w1 ⟨rfl, hb⟩
    rw [HP.out]
    have y0 := x0.below hb
    have y1 := x1.below hb
    obtain ⟨c0, c1⟩ := y0.cs
    obtain ⟨c2, c3⟩ := y1.cs
    go_wp2_with fail
    refine (RIs_any true B _ d k _ rfl (by omega) (hk.below (bt hw1 hb))).mono ?_
    exact mbdea7
   ·show Calls _ _ _ _ fun e w' => e = .returned (.int .i64 (-1)) ∧ _
    go_enter Tryz.func61, Tryz.ntmps61
    go_wp2_with fail
    obtain ⟨W1, hW1⟩ : ∃ W, W = (w.alloc (.cells #[.bool true, .slice A l.length c] 24)).alloc (.cells #[.bool false, .slice B k.length d] 24) := ⟨_, rfl⟩
    have x0 : Box2 W1 w.heap.size (.bool true) (.slice A l.length c) := by rw [hW1]; exact (Box2.new w _ _).alloc _
    have x1 : Box2 W1 (w.heap.size + 1) (.bool false) (.slice B k.length d) := by
     rw [hW1]
     have h := Box2.new (w.alloc (.cells #[.bool true, .slice A l.length c] 24)) (.bool false) (.slice B k.length d)
     rwa [World.size_alloc] at h
    have hw1 : Below w.heap.size w W1 := by rw [hW1]; exact ba (ba (b0 _) _) _
    rw [← hW1]
    clear hW1
    refine (RIs_any true A _ c l _ rfl (by omega) (hl.below hw1)).mono ?_
    rintro e w1 ⟨rfl, hb⟩
    rw [HP.out]
    have y0 := x0.below hb
    have y1 := x1.below hb
    obtain ⟨c0, c1⟩ := y0.cs
    obtain ⟨c2, c3⟩ := y1.cs
    go_wp2_with fail
    refine (RIs_any false B _ d k _ rfl (by omega) (hk.below (bt hw1 hb))).mono ?_
    exact mbdea7
   ·show Calls _ _ _ _ fun e w' => e = .returned (.int .i64 (cmpN (val k) (val l))) ∧ _
    go_enter Tryz.func61, Tryz.ntmps61
    go_wp2_with fail
    obtain ⟨W1, hW1⟩ : ∃ W, W = (w.alloc (.cells #[.bool true, .slice A l.length c] 24)).alloc (.cells #[.bool true, .slice B k.length d] 24) := ⟨_, rfl⟩
    have x0 : Box2 W1 w.heap.size (.bool true) (.slice A l.length c) := by rw [hW1]; exact (Box2.new w _ _).alloc _
    have x1 : Box2 W1 (w.heap.size + 1) (.bool true) (.slice B k.length d) := by
     rw [hW1]
     have h := Box2.new (w.alloc (.cells #[.bool true, .slice A l.length c] 24)) (.bool true) (.slice B k.length d)
     rwa [World.size_alloc] at h
    have hw1 : Below w.heap.size w W1 := by rw [hW1]; exact ba (ba (b0 _) _) _
    rw [← hW1]
    clear hW1
    refine (RIs_any true A _ c l _ rfl (by omega) (hl.below hw1)).mono ?_
    rintro e w1 ⟨rfl, hb⟩
    rw [HP.out]
    have y0 := x0.below hb
    have y1 := x1.below hb
    obtain ⟨c0, c1⟩ := y0.cs
    obtain ⟨c2, c3⟩ := y1.cs
    go_wp2_with fail
    refine (RIs_any true B _ d k _ rfl (by omega) (hk.below (bt hw1 hb))).mono ?_
    exact m09bf8
open Go.RowKit Go.Shelf
variable {A A' B B' : Option Addr} {c c' d d' : Nat} {k k' l l' : List Nat} {m m' n n' : Bool} {u v x y : Int} {w : World}
theorem RCmp_iv (h : IV w n A c l x) (h2 : IV w m B d k y) (hv : cmpI x y = v) :
  Calls Tryz.prog 61 #[.agg #[.bool n, .slice A l.length c], .agg #[.bool m, .slice B k.length d]] w fun e w' => e = .returned (.int .i64 v) ∧ Below w.heap.size w w' := by
 have e1 := h.len
 have e2 := h2.len
 have r := RCmp_any n m A B l.length c k.length d l k true true w rfl rfl (by omega) (by omega) h.ws h2.ws h.can h2.can
 rwa [if_pos (show (true && true) = true from rfl), h.val, h2.val, hv] at r
theorem RQDiv_iv (h : IV w n A c l x) (h2 : IV w m B d k y) (h3 : IV w n' A' c' l' u) (h4 : IV w m' B' d' k' v) (hy0 : y ≠ 0) (hv0 : v ≠ 0) (hx : Lt 120 x) (hy : Lt 120 y) (hu : Lt 120 u) (hv : Lt 120 v) (hs : u ≠ 0) :
  Calls Tryz.prog 39 #[.agg #[.bool n, .slice A l.length c, .bool m, .slice B k.length d], .agg #[.bool n', .slice A' l'.length c', .bool m', .slice B' k'.length d']] w (RQE w (fN (x * v) (y * u)) (fD (x * v) (y * u)) 0) := by
 have H1 := Hi h
 have H2 := Hi h2
 have H3 := Hi h3
 have H4 := Hi h4
 have HY := Hi hy0
 have HL := Hi (And.intro hx (And.intro hy (And.intro hu hv)))
 clear h h2 h3 h4 hx hy hu hv hy0 hv0
 have HS := Hi hs
 clear hs
 obtain ⟨W1, hW1, hw1, x0, x1, x2⟩ := hdQQq w n A c l m B d k n' A' c' l' m' B' d' k'
 go_enter Tryz.func39, Tryz.ntmps39
 go_wp2_with fail
 rw [← hW1]
 clear hW1
 refine (RQSign_iv (H3.out.below hw1) (H4.out.below hw1)).mono ?_
 rintro e wa ⟨rfl, hb⟩
 replace x0 := x0.below hb
 replace x1 := x1.below hb
 replace x2 := x2.below hb
 have hw1_ := bt hw1 hb
 clear hb hw1
 obtain ⟨sg, hsg⟩ : ∃ s, s = cmpI u 0 := ⟨_, rfl⟩
 have hsg0 : sg ≠ 0 := by
  rcases Int.lt_trichotomy u 0 with h | h | h
  ·rw [hsg, cmpI_neg h]; decide
  ·exact absurd h HS.out
  ·rw [hsg, cmpI_pos h]; decide
 rw [← hsg]
 have hsg1 : (sg == 0) = false := beq_eq_false_iff_ne.2 hsg0
 clear hsg
 refine g01 ?_
 intros
 clear hsg0 hsg1
 have HM1 := Hi (lt_le (lt_mul HL.out.1 HL.out.2.2.2) (show 240 ≤ 300 by decide))
 have HM2 := Hi (lt_le (lt_mul HL.out.2.1 HL.out.2.2.1) (show 240 ≤ 300 by decide))
 have HD := Hi (Int.mul_ne_zero HY.out HS.out)
 have HC := (hj x0.hc x1.hc)
 have HW := Hi hw1_
 have Gx0 := Hi x0
 have Gx1 := Hi x1
 have Gx2 := Hi x2
 clear x0 x1 x2 hw1_
 refine rg0 11 HC fun hHeld => ?_
 refine tk 0 ?_
 refine tk 1 ?_
 refine tk 2 ?_
 refine tk 3 ?_
 refine tk 5 ?_
 refine tk 6 ?_
 refine tk 7 ?_
 refine tk 8 ?_
 refine cl 4 fun K hK => ?_
 go_simp
 go_at_call 23
 refine (RMul_iv (H1.out.below (bt HW.out (bw (b0 _)))) (H4.out.below (bt HW.out (bw (b0 _)))) rfl HM1.out).mono ?_
 rintro e wb ⟨n1, A1, c1, l1, rfl, i1, hb⟩
 have HBwb := Hi (bt (bw (b0 wa)) hb)
 have HI1 := Hi i1
 clear hb i1 hHeld
 refine rk hK (HC.out _ HBwb.out) fun hHeld => ?_
 clear hK K
 refine cl 9 fun K hK => ?_
 go_simp
 go_at_call 23
 refine (RMul_iv (H2.out.below (bt HW.out HBwb.out)) (H3.out.below (bt HW.out HBwb.out)) rfl HM2.out).mono ?_
 rintro e wc1 ⟨n2, A2, c2, l2, rfl, i2, hb⟩
 have HBwc1 := Hi (bt HBwb.out hb)
 have HJ1 := Hi (HI1.out.below hb)
 have HI2 := Hi i2
 clear hb i2 hHeld
 refine rk hK (HC.out _ HBwc1.out) fun hHeld => ?_
 clear hK K
 refine cl 10 fun K hK => ?_
 go_simp
 go_at_call 106
 refine (Rover_iv HJ1.out HI2.out HD.out).mono ?_
 rintro e wd ⟨n3, A3, c3, l3, n4, A4, c4, l4, rfl, i3, i4, hb⟩
 have HBwd := Hi (bt HBwc1.out hb)
 have HI3 := Hi i3
 have HI4 := Hi i4
 clear hb i3 i4 hHeld
 refine rk hK (HC.out _ HBwd.out) fun hHeld => ?_
 clear hK K
 refine wpAnyH_done (by kernel_rfl) ?_ _
 simp only [HT]
 clear hHeld
 have x2 := Gx2.out.below HBwd.out
 have hw2_ := bt HW.out HBwd.out
 obtain ⟨f0, f1, f2, f3⟩ := x2.fr
 obtain ⟨r0, r1, r2, r3⟩ := x2.cs
 go_wp2_with fail
 have z2 := x2.stored (.bool n3) (.slice A3 l3.length c3) (.bool n4) (.slice A4 l4.length c4)
 obtain ⟨k0, k1, k2, k3⟩ := z2.cs
 refine bodyPost_ret (v := .tuple #[.agg #[.bool n3, .slice A3 l3.length c3, .bool n4, .slice A4 l4.length c4], .int .i64 0]) (by simp [results, Tryz.results39, go_sem, k0, k1, k2, k3]) rfl ?_
 exact rqe_store hw2_ (by omega) x2 HI3.out HI4.out
theorem RQDiv_zero (h : IV w n A c l x) (h2 : IV w m B d k y) (h3 : IV w n' A' c' l' u) (h4 : IV w m' B' d' k' v) (hy0 : y ≠ 0) (hv0 : v ≠ 0) (hx : Lt 120 x) (hy : Lt 120 y) (hu : Lt 120 u) (hv : Lt 120 v) (hs : u = 0) :
  Calls Tryz.prog 39 #[.agg #[.bool n, .slice A l.length c, .bool m, .slice B k.length d], .agg #[.bool n', .slice A' l'.length c', .bool m', .slice B' k'.length d']] w (RQE w 0 0 5) := by
 have H1 := Hi h
 have H2 := Hi h2
 have H3 := Hi h3
 have H4 := Hi h4
 have HY := Hi hy0
 have HL := Hi (And.intro hx (And.intro hy (And.intro hu hv)))
 clear h h2 h3 h4 hx hy hu hv hy0 hv0
 have HS := Hi hs
 clear hs
 obtain ⟨W1, hW1, hw1, x0, x1, x2⟩ := hdQQq w n A c l m B d k n' A' c' l' m' B' d' k'
 go_enter Tryz.func39, Tryz.ntmps39
 go_wp2_with fail
 rw [← hW1]
 clear hW1
 refine (RQSign_iv (H3.out.below hw1) (H4.out.below hw1)).mono ?_
 rintro e wa ⟨rfl, hb⟩
 replace x0 := x0.below hb
 replace x1 := x1.below hb
 replace x2 := x2.below hb
 have hw1_ := bt hw1 hb
 clear hb hw1
 rw [show cmpI u 0 = 0 by rw [HS.out]; rfl]
 obtain ⟨f0, f1, f2, f3⟩ := x2.fr
 obtain ⟨r0, r1, r2, r3⟩ := x2.cs
 go_wp2_with fail
 have z2 := x2.stored (.bool false) (.slice none 0 0) (.bool false) (.slice none 0 0)
 obtain ⟨k0, k1, k2, k3⟩ := z2.cs
 refine bodyPost_ret (v := .tuple #[.agg #[.bool false, .slice none 0 0, .bool false, .slice none 0 0], .int .i64 5]) (by simp [results, Tryz.results39, go_sem, k0, k1, k2, k3]) rfl ?_
 exact rqe_store (l := []) (k := []) hw1_ (by omega) x2 (iv0 _) (iv0 _)
theorem RQCmp_11 (h : IV w n A c l x) (h2 : IV w m B d k y) (h3 : IV w n' A' c' l' u) (h4 : IV w m' B' d' k' v) (hx : Lt 120 x) (hy : Lt 120 y) (hu : Lt 120 u) (hv : Lt 120 v) (ho : y = 1 ∧ v = 1) :
  Calls Tryz.prog 43 #[.agg #[.bool n, .slice A l.length c, .bool m, .slice B k.length d], .agg #[.bool n', .slice A' l'.length c', .bool m', .slice B' k'.length d']] w fun e w' => e = .returned (.int .i64 (cmpI (x * v) (u * y))) ∧ Below w.heap.size w w' := by
 have H1 := Hi h
 have H2 := Hi h2
 have H3 := Hi h3
 have H4 := Hi h4
 have HL1 := Hi (lt_le (lt_mul hx hv) (show 240 ≤ 300 by decide))
 have HL2 := Hi (lt_le (lt_mul hu hy) (show 240 ≤ 300 by decide))
 have HO := Hi ho
 clear h h2 h3 h4 hx hy hu hv ho
 obtain ⟨W1, hW1, hw1, x0, x1⟩ := hdQQ w n A c l m B d k n' A' c' l' m' B' d' k'
 go_enter Tryz.func43, Tryz.ntmps43
 go_wp2_with fail
 rw [← hW1]
 clear hW1
 refine (RisOne_iv (H2.out.below hw1)).mono ?_
 rintro e wa ⟨rfl, hb⟩
 replace x0 := x0.below hb
 replace x1 := x1.below hb
 have hw1_ := bt hw1 hb
 clear hb hw1
 rw [show decide (y = 1) = true from decide_eq_true HO.out.1]
 refine g01 ?_
 intros
 refine (RisOne_iv (H4.out.below hw1_)).mono ?_
 rintro e wb ⟨rfl, hb⟩
 replace x0 := x0.below hb
 replace x1 := x1.below hb
 have hw2_ := bt hw1_ hb
 clear hb hw1_
 rw [show decide (v = 1) = true from decide_eq_true HO.out.2]
 refine g01 ?_
 intros
 refine (RCmp_iv (H1.out.below hw2_) (H3.out.below hw2_) rfl).mono ?_
 rintro e w3 ⟨rfl, hb⟩
 replace x0 := x0.below hb
 replace x1 := x1.below hb
 have hw3_ := bt hw2_ hb
 clear hb hw2_
 go_wp2_with fail
 go_ret
 exact ⟨by rw [HO.out.1, HO.out.2, Int.mul_one, Int.mul_one]; rfl, hw3_⟩
theorem RQCmp_10 (h : IV w n A c l x) (h2 : IV w m B d k y) (h3 : IV w n' A' c' l' u) (h4 : IV w m' B' d' k' v) (hx : Lt 120 x) (hy : Lt 120 y) (hu : Lt 120 u) (hv : Lt 120 v) (ho : y = 1 ∧ v ≠ 1) :
  Calls Tryz.prog 43 #[.agg #[.bool n, .slice A l.length c, .bool m, .slice B k.length d], .agg #[.bool n', .slice A' l'.length c', .bool m', .slice B' k'.length d']] w fun e w' => e = .returned (.int .i64 (cmpI (x * v) (u * y))) ∧ Below w.heap.size w w' := by
 have H1 := Hi h
 have H2 := Hi h2
 have H3 := Hi h3
 have H4 := Hi h4
 have HL1 := Hi (lt_le (lt_mul hx hv) (show 240 ≤ 300 by decide))
 have HL2 := Hi (lt_le (lt_mul hu hy) (show 240 ≤ 300 by decide))
 have HO := Hi ho
 clear h h2 h3 h4 hx hy hu hv ho
 obtain ⟨W1, hW1, hw1, x0, x1⟩ := hdQQ w n A c l m B d k n' A' c' l' m' B' d' k'
 go_enter Tryz.func43, Tryz.ntmps43
 go_wp2_with fail
 rw [← hW1]
 clear hW1
 refine (RisOne_iv (H2.out.below hw1)).mono ?_
 rintro e wa ⟨rfl, hb⟩
 replace x0 := x0.below hb
 replace x1 := x1.below hb
 have hw1_ := bt hw1 hb
 clear hb hw1
 rw [show decide (y = 1) = true from decide_eq_true HO.out.1]
 refine g01 ?_
 intros
 refine (RisOne_iv (H4.out.below hw1_)).mono ?_
 rintro e wb ⟨rfl, hb⟩
 replace x0 := x0.below hb
 replace x1 := x1.below hb
 have hw2_ := bt hw1_ hb
 clear hb hw1_
 rw [show decide (v = 1) = false from decide_eq_false HO.out.2]
 refine g01 ?_
 intros
 have HC := (hj x0.hc x1.hc)
 have HW := Hi hw2_
 have Gx0 := Hi x0
 have Gx1 := Hi x1
 clear x0 x1 hw2_
 refine rg0 11 HC fun hHeld => ?_
 refine tk 0 ?_
 refine tk 1 ?_
 refine tk 2 ?_
 refine tk 3 ?_
 refine tk 5 ?_
 refine tk 6 ?_
 refine tk 7 ?_
 refine tk 8 ?_
 refine cl 4 fun K hK => ?_
 go_simp
 go_at_call 23
 refine (RMul_iv (H1.out.below (bt HW.out (bw (b0 _)))) (H4.out.below (bt HW.out (bw (b0 _)))) rfl HL1.out).mono ?_
 rintro e w5 ⟨n1, A1, c1, l1, rfl, i1, hb⟩
 have HBw5 := Hi (bt (bw (b0 wb)) hb)
 have HI1 := Hi i1
 clear hb i1 hHeld
 refine rk hK (HC.out _ HBw5.out) fun hHeld => ?_
 clear hK K
 refine cl 9 fun K hK => ?_
 go_simp
 go_at_call 23
 refine (RMul_iv (H3.out.below (bt HW.out HBw5.out)) (H2.out.below (bt HW.out HBw5.out)) rfl HL2.out).mono ?_
 rintro e w6 ⟨n2, A2, c2, l2, rfl, i2, hb⟩
 have HBw6 := Hi (bt HBw5.out hb)
 have HI2 := Hi i2
 have HJ1 := Hi (HI1.out.below hb)
 clear hb i2 hHeld
 refine rk hK (HC.out _ HBw6.out) fun hHeld => ?_
 clear hK K
 refine cl 10 fun K hK => ?_
 go_simp
 go_at_call 61
 refine (RCmp_iv HJ1.out HI2.out rfl).mono ?_
 rintro e w7 ⟨rfl, hb⟩
 have HBw7 := Hi (bt HBw6.out hb)
 clear hb  hHeld
 refine rk hK (HC.out _ HBw7.out) fun hHeld => ?_
 clear hK K
 refine wpAnyH_done (by kernel_rfl) ?_ _
 simp only [HT]
 clear hHeld
 have hw3_ := bt HW.out HBw7.out
 go_wp2_with fail
 go_ret
 exact ⟨rfl, hw3_⟩
theorem RQCmp_0 (h : IV w n A c l x) (h2 : IV w m B d k y) (h3 : IV w n' A' c' l' u) (h4 : IV w m' B' d' k' v) (hx : Lt 120 x) (hy : Lt 120 y) (hu : Lt 120 u) (hv : Lt 120 v) (ho : y ≠ 1) :
  Calls Tryz.prog 43 #[.agg #[.bool n, .slice A l.length c, .bool m, .slice B k.length d], .agg #[.bool n', .slice A' l'.length c', .bool m', .slice B' k'.length d']] w fun e w' => e = .returned (.int .i64 (cmpI (x * v) (u * y))) ∧ Below w.heap.size w w' := by
 have H1 := Hi h
 have H2 := Hi h2
 have H3 := Hi h3
 have H4 := Hi h4
 have HL1 := Hi (lt_le (lt_mul hx hv) (show 240 ≤ 300 by decide))
 have HL2 := Hi (lt_le (lt_mul hu hy) (show 240 ≤ 300 by decide))
 have HO := Hi ho
 clear h h2 h3 h4 hx hy hu hv ho
 obtain ⟨W1, hW1, hw1, x0, x1⟩ := hdQQ w n A c l m B d k n' A' c' l' m' B' d' k'
 go_enter Tryz.func43, Tryz.ntmps43
 go_wp2_with fail
 rw [← hW1]
 clear hW1
 refine (RisOne_iv (H2.out.below hw1)).mono ?_
 rintro e wa ⟨rfl, hb⟩
 replace x0 := x0.below hb
 replace x1 := x1.below hb
 have hw1_ := bt hw1 hb
 clear hb hw1
 rw [show decide (y = 1) = false from decide_eq_false HO.out]
 refine g01 ?_
 intros
 have HC := (hj x0.hc x1.hc)
 have HW := Hi hw1_
 have Gx0 := Hi x0
 have Gx1 := Hi x1
 clear x0 x1 hw1_
 refine rg0 11 HC fun hHeld => ?_
 refine tk 0 ?_
 refine tk 1 ?_
 refine tk 2 ?_
 refine tk 3 ?_
 refine tk 5 ?_
 refine tk 6 ?_
 refine tk 7 ?_
 refine tk 8 ?_
 refine cl 4 fun K hK => ?_
 go_simp
 go_at_call 23
 refine (RMul_iv (H1.out.below (bt HW.out (bw (b0 _)))) (H4.out.below (bt HW.out (bw (b0 _)))) rfl HL1.out).mono ?_
 rintro e w5 ⟨n1, A1, c1, l1, rfl, i1, hb⟩
 have HBw5 := Hi (bt (bw (b0 wa)) hb)
 have HI1 := Hi i1
 clear hb i1 hHeld
 refine rk hK (HC.out _ HBw5.out) fun hHeld => ?_
 clear hK K
 refine cl 9 fun K hK => ?_
 go_simp
 go_at_call 23
 refine (RMul_iv (H3.out.below (bt HW.out HBw5.out)) (H2.out.below (bt HW.out HBw5.out)) rfl HL2.out).mono ?_
 rintro e w6 ⟨n2, A2, c2, l2, rfl, i2, hb⟩
 have HBw6 := Hi (bt HBw5.out hb)
 have HI2 := Hi i2
 have HJ1 := Hi (HI1.out.below hb)
 clear hb i2 hHeld
 refine rk hK (HC.out _ HBw6.out) fun hHeld => ?_
 clear hK K
 refine cl 10 fun K hK => ?_
 go_simp
 go_at_call 61
 refine (RCmp_iv HJ1.out HI2.out rfl).mono ?_
 rintro e w7 ⟨rfl, hb⟩
 have HBw7 := Hi (bt HBw6.out hb)
 clear hb  hHeld
 refine rk hK (HC.out _ HBw7.out) fun hHeld => ?_
 clear hK K
 refine wpAnyH_done (by kernel_rfl) ?_ _
 simp only [HT]
 clear hHeld
 have hw2_ := bt HW.out HBw7.out
 go_wp2_with fail
 go_ret
 exact ⟨rfl, hw2_⟩
theorem RQCmp_iv (h : IV w n A c l x) (h2 : IV w m B d k y) (h3 : IV w n' A' c' l' u) (h4 : IV w m' B' d' k' v) (hx : Lt 120 x) (hy : Lt 120 y) (hu : Lt 120 u) (hv : Lt 120 v) :
  Calls Tryz.prog 43 #[.agg #[.bool n, .slice A l.length c, .bool m, .slice B k.length d], .agg #[.bool n', .slice A' l'.length c', .bool m', .slice B' k'.length d']] w fun e w' => e = .returned (.int .i64 (cmpI (x * v) (u * y))) ∧ Below w.heap.size w w' := by
 by_cases h5 : y = 1
 ·by_cases h6 : v = 1
  ·exact RQCmp_11 h h2 h3 h4 hx hy hu hv ⟨h5, h6⟩
  ·exact RQCmp_10 h h2 h3 h4 hx hy hu hv ⟨h5, h6⟩
 ·exact RQCmp_0 h h2 h3 h4 hx hy hu hv h5
open Go.RowKit Go.Shelf
theorem RQFloor_iv {w : World} {n m : Bool} {A B : Option Addr} {c d : Nat} {l k : List Nat} {x y : Int} (h : IV w n A c l x) (h2 : IV w m B d k y) (hy : y ≠ 0) :
  Calls Tryz.prog 47 #[.agg #[.bool n, .slice A l.length c, .bool m, .slice B k.length d]] w (RIV w (x / y)) := by
 have H1 := Hi h
 have H2 := Hi h2
 have HY := Hi hy
 clear h h2 hy
 obtain ⟨W1, hW1, hw1, x0, x1⟩ := hdQi w n A c l m B d k
 go_enter Tryz.func47, Tryz.ntmps47
 go_wp2_with fail
 rw [← hW1]
 clear hW1
 refine g0 ?_
 intros
 refine (RDiv_iv (H1.out.below hw1) (H2.out.below hw1) HY.out).mono ?_
 rintro e w1 ⟨n1, A1, c1, l1, n2, A2, c2, l2, rfl, i1, i2, hb⟩
 replace x0 := x0.below hb
 replace x1 := x1.below hb
 have hw1_ := bt hw1 hb
 clear hb hw1
 have HI1 := Hi i1
 clear i1 i2
 go_upto_region 2 with fail
 obtain ⟨w2, hw⟩ : ∃ W, W = (w1.alloc (.cells #[.bool n1, .slice A1 l1.length c1] 24)).alloc (.cells #[.bool n2, .slice A2 l2.length c2] 24) := ⟨_, rfl⟩
 have xq : Box2 w2 (w1.heap.size) (.bool n1) (.slice A1 l1.length c1) := by
  rw [hw]
  have h := Box2.new w1 (.bool n1) (.slice A1 l1.length c1)
  exact (h.alloc _)
 have xr : Box2 w2 (w1.heap.size + 1) (.bool n2) (.slice A2 l2.length c2) := by
  rw [hw]
  have h := Box2.new (w1.alloc (.cells #[.bool n1, .slice A1 l1.length c1] 24)) (.bool n2) (.slice A2 l2.length c2)
  rw [World.size_alloc] at h
  exact h
 have hb : Below w1.heap.size w1 w2 := by rw [hw]; exact ba (ba (b0 _) _) _
 rw [← hw]
 clear hw
 replace x0 := x0.below hb
 replace x1 := x1.below hb
 replace HI1 := Hi (HI1.out.below hb)
 have hw2_ := bt hw1_ hb
 clear hb hw1_
 obtain ⟨Cq0, Cq1⟩ := xq.cs
 have f0 := x1.free 0
 have f1 := x1.free 1
 obtain ⟨r0, r1⟩ := x1.cs
 obtain ⟨k0, k1, k2⟩ := x1.back (.bool n1) (.slice A1 l1.length c1)
 go_wp2_with fail
 refine bodyPost_ret (v := .agg #[.bool n1, .slice A1 l1.length c1]) (by simp [results, Tryz.results47, go_sem, k0, k2]) rfl ?_
 exact riv_store hw2_ (by omega) x1 HI1.out
end Go.Proofs.YtgljdfblgpdaaaaGreatDoor
