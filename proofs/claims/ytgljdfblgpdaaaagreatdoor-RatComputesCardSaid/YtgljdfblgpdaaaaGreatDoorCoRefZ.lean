import Derived.Test.YtgljdfblgpdaaaaGreatDoorCoRatK
import Derived.Test.YtgljdfblgpdaaaaGreatDoorCoRefY
set_option linter.unusedSimpArgs false
set_option linter.unusedVariables false
set_option maxRecDepth 100000
set_option maxHeartbeats 4000000
namespace Go.Proofs.YtgljdfblgpdaaaaGreatDoor
open Go.RowKit Go.Shelf
variable {A B : Option Addr} {c d e : Nat} {k l : List Nat} {m n : Bool} {w : World} {x y z : Int}
theorem RPow_iv (h : IV w n A c l z) (h1 : 1 < bl l → e ≤ 1048576 / bl l) (hfit : ∀ m, m ≤ e → val l ^ m < BB 200) :
  Calls Tryz.prog 117 #[.agg #[.bool n, .slice A l.length c], .int .i64 (e : Int)] w (RIE w (z ^ e)) := by
 rcases Nat.lt_or_ge (bl l) 2 with hb | hb
 ·exact RPow_small e h hb
 ·exact RPow_main h hb (h1 hb) hfit
theorem RQPow_zn (h : IV w n A c l x) (h2 : IV w m B d k y) (hx : x = 0) (hz : z < 0) :
  Calls Tryz.prog 56 #[.agg #[.bool n, .slice A l.length c, .bool m, .slice B k.length d], .int .i64 z] w (RQE w 0 0 5) := by
 have HX := Hi hx
 clear hx
 have hn2 : z < 0 := hz
 have H1 := Hi h
 have H2 := Hi h2
 clear h h2
 obtain ⟨W1, hW1, hw1, x0, x1⟩ := hdQq w n A c l m B d k
 go_enter Tryz.func56, Tryz.ntmps56
 go_wp2_with fail
 rw [← hW1]
 clear hW1
 obtain ⟨C00, C01, C02, C03⟩ := x0.cs
 go_wp2_with fail
 refine (RQSign_iv (H1.out.below hw1) (H2.out.below hw1)).mono ?_
 rintro e w2 ⟨rfl, hb⟩
 clear C00 C01 C02 C03
 replace x0 := x0.below hb
 replace x1 := x1.below hb
 have hw1_ := bt hw1 hb
 clear hb hw1
 rw [HX.out, show cmpI 0 0 = 0 from rfl]
 obtain ⟨f0, f1, f2, f3⟩ := x1.fr
 obtain ⟨r0, r1, r2, r3⟩ := x1.cs
 go_wp2_with fail
 have z2 := x1.stored (.bool false) (.slice none 0 0) (.bool false) (.slice none 0 0)
 obtain ⟨k0, k1, k2, k3⟩ := z2.cs
 refine bodyPost_ret (v := .tuple #[.agg #[.bool false, .slice none 0 0, .bool false, .slice none 0 0], .int .i64 5]) (by simp [results, Tryz.results56, go_sem, k0, k1, k2, k3]) rfl ?_
 exact rqe_store (l := []) (k := []) hw1_ (by omega) x1 (iv0 _) (iv0 _)
theorem m3737d {P : Prop} (h : P := by
 obtain ⟨f0, f1, f2, f3⟩ := x1.fr
 obtain ⟨r0, r1, r2, r3⟩ := x1.cs
 go_wp2_with fail
 have z2 := x1.stored (.bool false) (.slice none 0 0) (.bool false) (.slice none 0 0)
 obtain ⟨k0, k1, k2, k3⟩ := z2.cs
 refine bodyPost_ret (v := .tuple #[.agg #[.bool false, .slice none 0 0, .bool false, .slice none 0 0], .int .i64 2]) (by simp [results, Tryz.results56, go_sem, k0, k1, k2, k3]) rfl ?_
 exact rqe_store (l := []) (k := []) hw2_ (by omega) x1 (iv0 _) (iv0 _)) : P := h
theorem RQPow_lim (h : IV w n A c l x) (h2 : IV w m B d k y) (hx : x ≠ 0) (hn : -9223372036854775808 ≤ z ∧ z ≤ 9223372036854775807) (hk : 1 < max (bl l) (bl k)) (hlim : (1048576 / max (bl l) (bl k) : Nat) < z ∨ z < -((1048576 / max (bl l) (bl k) : Nat) : Int)) :
  Calls Tryz.prog 56 #[.agg #[.bool n, .slice A l.length c, .bool m, .slice B k.length d], .int .i64 z] w (RQE w 0 0 2) := by
 have HN := Hi hn
 clear hn
 have HK := Hi hk
 clear hk
 have HLM := Hi hlim
 clear hlim
 have HX := Hi hx
 clear hx
 have H1 := Hi h
 have H2 := Hi h2
 clear h h2
 obtain ⟨W1, hW1, hw1, x0, x1⟩ := hdQq w n A c l m B d k
 go_enter Tryz.func56, Tryz.ntmps56
 go_wp2_with fail
 rw [← hW1]
 clear hW1
 obtain ⟨C00, C01, C02, C03⟩ := x0.cs
 go_wp2_with fail
 refine (RQSign_iv (H1.out.below hw1) (H2.out.below hw1)).mono ?_
 rintro e w2 ⟨rfl, hb⟩
 clear C00 C01 C02 C03
 replace x0 := x0.below hb
 replace x1 := x1.below hb
 have hw1_ := bt hw1 hb
 clear hb hw1
 obtain ⟨sg, hsg⟩ : ∃ s, s = cmpI x 0 := ⟨_, rfl⟩
 have hsg0 : sg ≠ 0 := by
  exact m3e5ae
 rw [← hsg]
 have hsg1 : (sg == 0) = false := beq_eq_false_iff_ne.2 hsg0
 have HSG := Hi hsg
 clear hsg
 obtain ⟨C00, C01, C02, C03⟩ := x0.cs
 go_wp2_with fail
 refine (RQBits_iv (H1.out.below hw1_) (H2.out.below hw1_)).mono ?_
 rintro e w3 ⟨rfl, hb⟩
 clear C00 C01 C02 C03
 replace x0 := x0.below hb
 replace x1 := x1.below hb
 have hw2_ := bt hw1_ hb
 clear hb hw1_
 obtain ⟨K, hKK⟩ : ∃ K, K = max (bl l) (bl k) := ⟨_, rfl⟩
 rw [← hKK]
 rw [← hKK] at HK
 have HKK := Hi hKK
 have hk1 : (1 : Int) < (K : Int) := by have := HK.out; omega
 have hk2 : ¬ (K : Int) < 2 := by have := HK.out; omega
 have hk0 : ((K : Int) == 0) = false := beq_eq_false_iff_ne.2 (by have := HK.out; omega)
 obtain ⟨D, hD⟩ : ∃ D, D = 1048576 / K := ⟨_, rfl⟩
 have hdiv : (1048576 : Int).tdiv (K : Int) = (D : Int) := by rw [Int.tdiv_eq_ediv_of_nonneg (by omega), hD]; simp
 have hDl : D ≤ 1048576 := by rw [hD]; exact Nat.div_le_self _ _
 have hdiv2 : (1048576 : Int) / (K : Int) = (D : Int) := by rw [hD]; simp
 have hwD : wrap64 (D : Int) = (D : Int) := by unfold wrap64; omega
 have hwn : wrap64 (-(D : Int)) = -(D : Int) := by unfold wrap64; omega
 rw [← hKK, ← hD] at HLM
 clear hKK hD
 have hzz := HLM.out
 clear HLM HK HX H1 H2 HN HKK HSG
 by_cases hz1 : (D : Int) < z
 ·skip
  exact m3737d
 ·have hz2 : z < -(D : Int) := by omega
  exact m3737d
theorem m33ff7 {P : Prop} (h : P := by
 rintro e w9 ⟨n3, A3, c3, l3, n4, A4, c4, l4, rfl, i3, i4, hb⟩
 clear Cp0 Cp1 Cq0 Cq1
 replace x0 := x0.below hb
 replace x1 := x1.below hb
 replace xp := xp.below hb
 replace xq := xq.below hb
 replace J1 := Hi (J1.out.below hb)
 replace J2 := Hi (J2.out.below hb)
 have hw8_ := bt hw7_ hb
 clear hb hw7_
 have J3 := Hi i3
 have J4 := Hi i4
 clear i3 i4
 obtain ⟨f0, f1, f2, f3⟩ := x1.fr
 obtain ⟨r0, r1, r2, r3⟩ := x1.cs
 go_wp2_with fail
 have z2 := x1.stored (.bool n3) (.slice A3 l3.length c3) (.bool n4) (.slice A4 l4.length c4)
 obtain ⟨k0, k1, k2, k3⟩ := z2.cs
 refine bodyPost_ret (v := .tuple #[.agg #[.bool n3, .slice A3 l3.length c3, .bool n4, .slice A4 l4.length c4], .int .i64 0]) (by simp [results, Tryz.results56, go_sem, k0, k1, k2, k3]) rfl ?_
 exact rqe_store hw8_ (by omega) x1 J3.out J4.out) : P := h
theorem RQPow_bigp (h : IV w n A c l x) (h2 : IV w m B d k y) (hx : x ≠ 0) (hn : -9223372036854775808 ≤ z ∧ z ≤ 9223372036854775807) (hk : 1 < max (bl l) (bl k)) (hlim : z ≤ (1048576 / max (bl l) (bl k) : Nat) ∧ -((1048576 / max (bl l) (bl k) : Nat) : Int) ≤ z) (f1 : (1 < bl l → e ≤ 1048576 / bl l) ∧ ∀ m, m ≤ e → val l ^ m < BB 200) (f2 : (1 < bl k → e ≤ 1048576 / bl k) ∧ ∀ m, m ≤ e → val k ^ m < BB 200) (he : z = (e : Int)) (hy : y ≠ 0) :
  Calls Tryz.prog 56 #[.agg #[.bool n, .slice A l.length c, .bool m, .slice B k.length d], .int .i64 z] w (RQE w (fN (x ^ e) (y ^ e)) (fD (x ^ e) (y ^ e)) 0) := by
 have HN := Hi hn
 clear hn
 have HK := Hi hk
 clear hk
 have HLIM := Hi hlim
 clear hlim
 have F1 := Hi f1
 have F2 := Hi f2
 clear f1 f2
 have HE := Hi he
 clear he
 have HX := Hi hx
 clear hx
 have HY := Hi hy
 clear hy
 have H1 := Hi h
 have H2 := Hi h2
 clear h h2
 obtain ⟨W1, hW1, hw1, x0, x1⟩ := hdQq w n A c l m B d k
 go_enter Tryz.func56, Tryz.ntmps56
 go_wp2_with fail
 rw [← hW1]
 clear hW1
 obtain ⟨C00, C01, C02, C03⟩ := x0.cs
 go_wp2_with fail
 refine (RQSign_iv (H1.out.below hw1) (H2.out.below hw1)).mono ?_
 rintro e w2 ⟨rfl, hb⟩
 clear C00 C01 C02 C03
 replace x0 := x0.below hb
 replace x1 := x1.below hb
 have hw1_ := bt hw1 hb
 clear hb hw1
 obtain ⟨sg, hsg⟩ : ∃ s, s = cmpI x 0 := ⟨_, rfl⟩
 have hsg0 : sg ≠ 0 := by
  exact m3e5ae
 rw [← hsg]
 have hsg1 : (sg == 0) = false := beq_eq_false_iff_ne.2 hsg0
 have HSG := Hi hsg
 clear hsg
 obtain ⟨C00, C01, C02, C03⟩ := x0.cs
 go_wp2_with fail
 refine (RQBits_iv (H1.out.below hw1_) (H2.out.below hw1_)).mono ?_
 rintro e w3 ⟨rfl, hb⟩
 clear C00 C01 C02 C03
 replace x0 := x0.below hb
 replace x1 := x1.below hb
 have hw2_ := bt hw1_ hb
 clear hb hw1_
 obtain ⟨K, hKK⟩ : ∃ K, K = max (bl l) (bl k) := ⟨_, rfl⟩
 rw [← hKK]
 rw [← hKK] at HK
 have HKK := Hi hKK
 have hk1 : (1 : Int) < (K : Int) := by have := HK.out; omega
 have hk2 : ¬ (K : Int) < 2 := by have := HK.out; omega
 have hk0 : ((K : Int) == 0) = false := beq_eq_false_iff_ne.2 (by have := HK.out; omega)
 obtain ⟨D, hD⟩ : ∃ D, D = 1048576 / K := ⟨_, rfl⟩
 have hdiv : (1048576 : Int).tdiv (K : Int) = (D : Int) := by rw [Int.tdiv_eq_ediv_of_nonneg (by omega), hD]; simp
 have hDl : D ≤ 1048576 := by rw [hD]; exact Nat.div_le_self _ _
 have hdiv2 : (1048576 : Int) / (K : Int) = (D : Int) := by rw [hD]; simp
 have hwD : wrap64 (D : Int) = (D : Int) := by unfold wrap64; omega
 have hwn : wrap64 (-(D : Int)) = -(D : Int) := by unfold wrap64; omega
 rw [← hKK, ← hD] at HLIM
 clear hKK hD
 have hz1 : ¬ (D : Int) < z := by have := HLIM.out; omega
 have hz2 : ¬ z < -(D : Int) := by have := HLIM.out; omega
 obtain ⟨C00, C01, C02, C03⟩ := x0.cs
 go_wp2_with fail
 refine (RQBits_iv (H1.out.below hw2_) (H2.out.below hw2_)).mono ?_
 rintro e w4 ⟨rfl, hb⟩
 clear C00 C01 C02 C03
 replace x0 := x0.below hb
 replace x1 := x1.below hb
 have hw3_ := bt hw2_ hb
 clear hb hw2_
 rw [← HKK.out]
 obtain ⟨C00, C01, C02, C03⟩ := x0.cs
 have hzn : ¬ z < 0 := by have h1 := HE.out; omega
 go_wp2_with fail
 rw [HE.out]
 refine (RPow_iv (H1.out.below hw3_) F1.out.1 F1.out.2).mono ?_
 rintro e w5 ⟨n1, A1, c1, l1, rfl, i1, hb⟩
 clear C00 C01 C02 C03
 replace x0 := x0.below hb
 replace x1 := x1.below hb
 have hw4_ := bt hw3_ hb
 clear hb hw3_
 have J1 := Hi i1
 clear i1
 go_upto_region 14 with fail
 obtain ⟨w6, hw⟩ : ∃ W, W = w5.alloc (.cells #[.bool n1, .slice A1 l1.length c1] 24) := ⟨_, rfl⟩
 have xp : Box2 w6 (w5.heap.size) (.bool n1) (.slice A1 l1.length c1) := by
  rw [hw]
  have h := Box2.new w5 (.bool n1) (.slice A1 l1.length c1)
  exact h
 have hb : Below w5.heap.size w5 w6 := by rw [hw]; exact ba (b0 _) _
 rw [← hw]
 clear hw
 replace x0 := x0.below hb
 replace x1 := x1.below hb
 replace J1 := Hi (J1.out.below hb)
 have hw5_ := bt hw4_ hb
 clear hb hw4_
 obtain ⟨C00, C01, C02, C03⟩ := x0.cs
 go_wp2_with fail
 refine (RPow_iv (H2.out.below hw5_) F2.out.1 F2.out.2).mono ?_
 rintro e w7 ⟨n2, A2, c2, l2, rfl, i2, hb⟩
 clear C00 C01 C02 C03
 replace x0 := x0.below hb
 replace x1 := x1.below hb
 replace xp := xp.below hb
 replace J1 := Hi (J1.out.below hb)
 have hw6_ := bt hw5_ hb
 clear hb hw5_
 have J2 := Hi i2
 clear i2
 go_upto_region 15 with fail
 obtain ⟨w8, hw⟩ : ∃ W, W = w7.alloc (.cells #[.bool n2, .slice A2 l2.length c2] 24) := ⟨_, rfl⟩
 have xq : Box2 w8 (w7.heap.size) (.bool n2) (.slice A2 l2.length c2) := by
  rw [hw]
  have h := Box2.new w7 (.bool n2) (.slice A2 l2.length c2)
  exact h
 have hb : Below w7.heap.size w7 w8 := by rw [hw]; exact ba (b0 _) _
 rw [← hw]
 clear hw
 replace x0 := x0.below hb
 replace x1 := x1.below hb
 replace xp := xp.below hb
 replace J1 := Hi (J1.out.below hb)
 replace J2 := Hi (J2.out.below hb)
 have hw7_ := bt hw6_ hb
 clear hb hw6_
 obtain ⟨Cp0, Cp1⟩ := xp.cs
 obtain ⟨Cq0, Cq1⟩ := xq.cs
 go_wp2_with fail
 refine (Rover_iv J1.out J2.out (Int.pow_ne_zero HY.out)).mono ?_
 exact m33ff7
theorem RQPow_bign (h : IV w n A c l x) (h2 : IV w m B d k y) (hx : x ≠ 0) (hn : -9223372036854775808 ≤ z ∧ z ≤ 9223372036854775807) (hk : 1 < max (bl l) (bl k)) (hlim : z ≤ (1048576 / max (bl l) (bl k) : Nat) ∧ -((1048576 / max (bl l) (bl k) : Nat) : Int) ≤ z) (f1 : (1 < bl l → e ≤ 1048576 / bl l) ∧ ∀ m, m ≤ e → val l ^ m < BB 200) (f2 : (1 < bl k → e ≤ 1048576 / bl k) ∧ ∀ m, m ≤ e → val k ^ m < BB 200) (he : z = -(e : Int)) (he0 : 0 < e) :
  Calls Tryz.prog 56 #[.agg #[.bool n, .slice A l.length c, .bool m, .slice B k.length d], .int .i64 z] w (RQE w (fN (y ^ e) (x ^ e)) (fD (y ^ e) (x ^ e)) 0) := by
 have HN := Hi hn
 clear hn
 have HK := Hi hk
 clear hk
 have HLIM := Hi hlim
 clear hlim
 have F1 := Hi f1
 have F2 := Hi f2
 clear f1 f2
 have HE := Hi he
 clear he
 have HX := Hi hx
 clear hx
 have H1 := Hi h
 have H2 := Hi h2
 clear h h2
 obtain ⟨W1, hW1, hw1, x0, x1⟩ := hdQq w n A c l m B d k
 go_enter Tryz.func56, Tryz.ntmps56
 go_wp2_with fail
 rw [← hW1]
 clear hW1
 obtain ⟨C00, C01, C02, C03⟩ := x0.cs
 go_wp2_with fail
 refine (RQSign_iv (H1.out.below hw1) (H2.out.below hw1)).mono ?_
 rintro e w2 ⟨rfl, hb⟩
 clear C00 C01 C02 C03
 replace x0 := x0.below hb
 replace x1 := x1.below hb
 have hw1_ := bt hw1 hb
 clear hb hw1
 obtain ⟨sg, hsg⟩ : ∃ s, s = cmpI x 0 := ⟨_, rfl⟩
 have hsg0 : sg ≠ 0 := by
  exact m3e5ae
 rw [← hsg]
 have hsg1 : (sg == 0) = false := beq_eq_false_iff_ne.2 hsg0
 have HSG := Hi hsg
 clear hsg
 obtain ⟨C00, C01, C02, C03⟩ := x0.cs
 go_wp2_with fail
 refine (RQBits_iv (H1.out.below hw1_) (H2.out.below hw1_)).mono ?_
 rintro e w3 ⟨rfl, hb⟩
 clear C00 C01 C02 C03
 replace x0 := x0.below hb
 replace x1 := x1.below hb
 have hw2_ := bt hw1_ hb
 clear hb hw1_
 obtain ⟨K, hKK⟩ : ∃ K, K = max (bl l) (bl k) := ⟨_, rfl⟩
 rw [← hKK]
 rw [← hKK] at HK
 have HKK := Hi hKK
 have hk1 : (1 : Int) < (K : Int) := by have := HK.out; omega
 have hk2 : ¬ (K : Int) < 2 := by have := HK.out; omega
 have hk0 : ((K : Int) == 0) = false := beq_eq_false_iff_ne.2 (by have := HK.out; omega)
 obtain ⟨D, hD⟩ : ∃ D, D = 1048576 / K := ⟨_, rfl⟩
 have hdiv : (1048576 : Int).tdiv (K : Int) = (D : Int) := by rw [Int.tdiv_eq_ediv_of_nonneg (by omega), hD]; simp
 have hDl : D ≤ 1048576 := by rw [hD]; exact Nat.div_le_self _ _
 have hdiv2 : (1048576 : Int) / (K : Int) = (D : Int) := by rw [hD]; simp
 have hwD : wrap64 (D : Int) = (D : Int) := by unfold wrap64; omega
 have hwn : wrap64 (-(D : Int)) = -(D : Int) := by unfold wrap64; omega
 rw [← hKK, ← hD] at HLIM
 clear hKK hD
 have hz1 : ¬ (D : Int) < z := by have := HLIM.out; omega
 have hz2 : ¬ z < -(D : Int) := by have := HLIM.out; omega
 obtain ⟨C00, C01, C02, C03⟩ := x0.cs
 go_wp2_with fail
 refine (RQBits_iv (H1.out.below hw2_) (H2.out.below hw2_)).mono ?_
 rintro e w4 ⟨rfl, hb⟩
 clear C00 C01 C02 C03
 replace x0 := x0.below hb
 replace x1 := x1.below hb
 have hw3_ := bt hw2_ hb
 clear hb hw2_
 rw [← HKK.out]
 obtain ⟨C00, C01, C02, C03⟩ := x0.cs
 have hzn : z < 0 := by have h1 := HE.out; have h2 := HN.out; omega
 have hwz : wrap64 (-z) = (e : Int) := by have h1 := HE.out; unfold wrap64; have h2 := HLIM.out; omega
 have hmz : -z = (e : Int) := by have h1 := HE.out; omega
 go_wp2_with fail
 refine (RPow_iv (H1.out.below hw3_) F1.out.1 F1.out.2).mono ?_
 rintro e w5 ⟨n1, A1, c1, l1, rfl, i1, hb⟩
 clear C00 C01 C02 C03
 replace x0 := x0.below hb
 replace x1 := x1.below hb
 have hw4_ := bt hw3_ hb
 clear hb hw3_
 have J1 := Hi i1
 clear i1
 go_upto_region 14 with fail
 obtain ⟨w6, hw⟩ : ∃ W, W = w5.alloc (.cells #[.bool n1, .slice A1 l1.length c1] 24) := ⟨_, rfl⟩
 have xp : Box2 w6 (w5.heap.size) (.bool n1) (.slice A1 l1.length c1) := by
  rw [hw]
  have h := Box2.new w5 (.bool n1) (.slice A1 l1.length c1)
  exact h
 have hb : Below w5.heap.size w5 w6 := by rw [hw]; exact ba (b0 _) _
 rw [← hw]
 clear hw
 replace x0 := x0.below hb
 replace x1 := x1.below hb
 replace J1 := Hi (J1.out.below hb)
 have hw5_ := bt hw4_ hb
 clear hb hw4_
 obtain ⟨C00, C01, C02, C03⟩ := x0.cs
 go_wp2_with fail
 refine (RPow_iv (H2.out.below hw5_) F2.out.1 F2.out.2).mono ?_
 rintro e w7 ⟨n2, A2, c2, l2, rfl, i2, hb⟩
 clear C00 C01 C02 C03
 replace x0 := x0.below hb
 replace x1 := x1.below hb
 replace xp := xp.below hb
 replace J1 := Hi (J1.out.below hb)
 have hw6_ := bt hw5_ hb
 clear hb hw5_
 have J2 := Hi i2
 clear i2
 go_upto_region 15 with fail
 obtain ⟨w8, hw⟩ : ∃ W, W = w7.alloc (.cells #[.bool n2, .slice A2 l2.length c2] 24) := ⟨_, rfl⟩
 have xq : Box2 w8 (w7.heap.size) (.bool n2) (.slice A2 l2.length c2) := by
  rw [hw]
  have h := Box2.new w7 (.bool n2) (.slice A2 l2.length c2)
  exact h
 have hb : Below w7.heap.size w7 w8 := by rw [hw]; exact ba (b0 _) _
 rw [← hw]
 clear hw
 replace x0 := x0.below hb
 replace x1 := x1.below hb
 replace xp := xp.below hb
 replace J1 := Hi (J1.out.below hb)
 replace J2 := Hi (J2.out.below hb)
 have hw7_ := bt hw6_ hb
 clear hb hw6_
 obtain ⟨Cp0, Cp1⟩ := xp.cs
 obtain ⟨Cq0, Cq1⟩ := xq.cs
 go_wp2_with fail
 refine (Rover_iv J2.out J1.out (Int.pow_ne_zero HX.out)).mono ?_
 exact m33ff7
theorem RQInt_1 (w : World) :
  Calls Tryz.prog 116 #[.int .i64 1] w (RIQ w 1 1) := by
 obtain ⟨W1, hW1, hw1, x0⟩ := hdq w
 go_enter Tryz.func116, Tryz.ntmps116
 go_wp2_with fail
 rw [← hW1]
 clear hW1
 go_wp2_with fail
 refine (ROf_iv _ 1 (by decide) (by decide)).mono ?_
 rintro e w2 ⟨n1, A1, c1, l1, rfl, i1, hb⟩
 replace x0 := x0.below hb
 have hw1_ := bt hw1 hb
 clear hb hw1
 have J1 := Hi i1
 clear i1
 go_wp2_with fail
 refine (RQWhole_iv J1.out).mono ?_
 rintro e w3 ⟨n3, A3, c3, l3, n4, A4, c4, l4, rfl, i3, i4, hb⟩
 replace x0 := x0.below hb
 replace J1 := Hi (J1.out.below hb)
 have hw2_ := bt hw1_ hb
 clear hb hw1_
 have J3 := Hi i3
 have J4 := Hi i4
 clear i3 i4
 obtain ⟨f0, f1, f2, f3⟩ := x0.fr
 obtain ⟨r0, r1, r2, r3⟩ := x0.cs
 go_wp2_with fail
 have z2 := x0.stored (.bool n3) (.slice A3 l3.length c3) (.bool n4) (.slice A4 l4.length c4)
 obtain ⟨k0, k1, k2, k3⟩ := z2.cs
 refine bodyPost_ret (v := .agg #[.bool n3, .slice A3 l3.length c3, .bool n4, .slice A4 l4.length c4]) (by simp [results, Tryz.results116, go_sem, k0, k1, k2, k3]) rfl ?_
 exact riq_store hw2_ (by omega) x0 J3.out J4.out
theorem RQPow_sA (h : IV w n A c l x) (h2 : IV w m B d k y) (hx : x < 0) (hk : max (bl l) (bl k) ≤ 1) (hz : z.tmod 2 ≠ 0) :
  Calls Tryz.prog 56 #[.agg #[.bool n, .slice A l.length c, .bool m, .slice B k.length d], .int .i64 z] w (RQE w x y 0) := by
 have HX := Hi hx
 clear hx
 have HK := Hi hk
 clear hk
 have hz1 : (z.tmod 2 == 0) = false := beq_eq_false_iff_ne.2 hz
 have hz3 : (z.tmod 2 != 0) = true := bne_iff_ne.2 hz
 have H1 := Hi h
 have H2 := Hi h2
 clear h h2
 obtain ⟨W1, hW1, hw1, x0, x1⟩ := hdQq w n A c l m B d k
 go_enter Tryz.func56, Tryz.ntmps56
 go_wp2_with fail
 rw [← hW1]
 clear hW1
 obtain ⟨C00, C01, C02, C03⟩ := x0.cs
 go_wp2_with fail
 refine (RQSign_iv (H1.out.below hw1) (H2.out.below hw1)).mono ?_
 rintro e w2 ⟨rfl, hb⟩
 clear C00 C01 C02 C03
 replace x0 := x0.below hb
 replace x1 := x1.below hb
 have hw1_ := bt hw1 hb
 clear hb hw1
 rw [cmpI_neg HX.out]
 obtain ⟨C00, C01, C02, C03⟩ := x0.cs
 go_wp2_with fail
 refine (RQBits_iv (H1.out.below hw1_) (H2.out.below hw1_)).mono ?_
 rintro e w3 ⟨rfl, hb⟩
 clear C00 C01 C02 C03
 replace x0 := x0.below hb
 replace x1 := x1.below hb
 have hw2_ := bt hw1_ hb
 clear hb hw1_
 obtain ⟨K, hKK⟩ : ∃ K, K = max (bl l) (bl k) := ⟨_, rfl⟩
 rw [← hKK]
 rw [← hKK] at HK
 have HKK := Hi hKK
 clear hKK
 have hk1 : ¬ (1 : Int) < (K : Int) := by have := HK.out; omega
 have hk2 : (K : Int) < 2 := by have := HK.out; omega
 obtain ⟨C00, C01, C02, C03⟩ := x0.cs
 go_wp2_with fail
 refine (RQBits_iv (H1.out.below hw2_) (H2.out.below hw2_)).mono ?_
 rintro e w4 ⟨rfl, hb⟩
 clear C00 C01 C02 C03
 replace x0 := x0.below hb
 replace x1 := x1.below hb
 have hw3_ := bt hw2_ hb
 clear hb hw2_
 rw [← HKK.out]
 obtain ⟨C00, C01, C02, C03⟩ := x0.cs
 go_wp2_with fail
 refine (RQSign_iv (H1.out.below hw3_) (H2.out.below hw3_)).mono ?_
 rintro e w5 ⟨rfl, hb⟩
 clear C00 C01 C02 C03
 replace x0 := x0.below hb
 replace x1 := x1.below hb
 have hw4_ := bt hw3_ hb
 clear hb hw3_
 rw [cmpI_neg HX.out]
 obtain ⟨C00, C01, C02, C03⟩ := x0.cs
 obtain ⟨f0, f1, f2, f3⟩ := x1.fr
 obtain ⟨r0, r1, r2, r3⟩ := x1.cs
 go_wp2_with fail
 have z2 := x1.stored (.bool n) (.slice A l.length c) (.bool m) (.slice B k.length d)
 obtain ⟨k0, k1, k2, k3⟩ := z2.cs
 refine bodyPost_ret (v := .tuple #[.agg #[.bool n, .slice A l.length c, .bool m, .slice B k.length d], .int .i64 0]) (by simp [results, Tryz.results56, go_sem, k0, k1, k2, k3]) rfl ?_
 exact rqe_store hw4_ (by omega) x1 (H1.out.below hw4_) (H2.out.below hw4_)
theorem RQPow_sB (h : IV w n A c l x) (h2 : IV w m B d k y) (hx : x = 0) (hk : max (bl l) (bl k) ≤ 1) (hz : 0 < z) :
  Calls Tryz.prog 56 #[.agg #[.bool n, .slice A l.length c, .bool m, .slice B k.length d], .int .i64 z] w (RQE w x y 0) := by
 have HX := Hi hx
 clear hx
 have HK := Hi hk
 clear hk
 have hz1 : (z == 0) = false := beq_eq_false_iff_ne.2 (by omega)
 have hz2 : ¬ z < 0 := by omega
 clear hz
 have H1 := Hi h
 have H2 := Hi h2
 clear h h2
 obtain ⟨W1, hW1, hw1, x0, x1⟩ := hdQq w n A c l m B d k
 go_enter Tryz.func56, Tryz.ntmps56
 go_wp2_with fail
 rw [← hW1]
 clear hW1
 obtain ⟨C00, C01, C02, C03⟩ := x0.cs
 go_wp2_with fail
 refine (RQSign_iv (H1.out.below hw1) (H2.out.below hw1)).mono ?_
 rintro e w2 ⟨rfl, hb⟩
 clear C00 C01 C02 C03
 replace x0 := x0.below hb
 replace x1 := x1.below hb
 have hw1_ := bt hw1 hb
 clear hb hw1
 rw [HX.out, show cmpI 0 0 = 0 from rfl]
 obtain ⟨C00, C01, C02, C03⟩ := x0.cs
 go_wp2_with fail
 refine (RQBits_iv (H1.out.below hw1_) (H2.out.below hw1_)).mono ?_
 rintro e w3 ⟨rfl, hb⟩
 clear C00 C01 C02 C03
 replace x0 := x0.below hb
 replace x1 := x1.below hb
 have hw2_ := bt hw1_ hb
 clear hb hw1_
 obtain ⟨K, hKK⟩ : ∃ K, K = max (bl l) (bl k) := ⟨_, rfl⟩
 rw [← hKK]
 rw [← hKK] at HK
 have HKK := Hi hKK
 clear hKK
 have hk1 : ¬ (1 : Int) < (K : Int) := by have := HK.out; omega
 have hk2 : (K : Int) < 2 := by have := HK.out; omega
 obtain ⟨C00, C01, C02, C03⟩ := x0.cs
 go_wp2_with fail
 refine (RQBits_iv (H1.out.below hw2_) (H2.out.below hw2_)).mono ?_
 rintro e w4 ⟨rfl, hb⟩
 clear C00 C01 C02 C03
 replace x0 := x0.below hb
 replace x1 := x1.below hb
 have hw3_ := bt hw2_ hb
 clear hb hw2_
 rw [← HKK.out]
 obtain ⟨C00, C01, C02, C03⟩ := x0.cs
 go_wp2_with fail
 refine (RQSign_iv (H1.out.below hw3_) (H2.out.below hw3_)).mono ?_
 rintro e w5 ⟨rfl, hb⟩
 clear C00 C01 C02 C03
 replace x0 := x0.below hb
 replace x1 := x1.below hb
 have hw4_ := bt hw3_ hb
 clear hb hw3_
 rw [HX.out, show cmpI 0 0 = 0 from rfl]
 obtain ⟨C00, C01, C02, C03⟩ := x0.cs
 go_wp2_with fail
 refine (RQSign_iv (H1.out.below hw4_) (H2.out.below hw4_)).mono ?_
 rintro e w6 ⟨rfl, hb⟩
 clear C00 C01 C02 C03
 replace x0 := x0.below hb
 replace x1 := x1.below hb
 have hw5_ := bt hw4_ hb
 clear hb hw4_
 rw [HX.out, show cmpI 0 0 = 0 from rfl]
 obtain ⟨C00, C01, C02, C03⟩ := x0.cs
 obtain ⟨f0, f1, f2, f3⟩ := x1.fr
 obtain ⟨r0, r1, r2, r3⟩ := x1.cs
 go_wp2_with fail
 have z2 := x1.stored (.bool n) (.slice A l.length c) (.bool m) (.slice B k.length d)
 obtain ⟨k0, k1, k2, k3⟩ := z2.cs
 refine bodyPost_ret (v := .tuple #[.agg #[.bool n, .slice A l.length c, .bool m, .slice B k.length d], .int .i64 0]) (by simp [results, Tryz.results56, go_sem, k0, k1, k2, k3]) rfl ?_
 exact rqe_store hw5_ (by omega) x1 (H1.out.below hw5_) (H2.out.below hw5_)
theorem mf1aa2 {P : Prop} (h : P := by
 go_wp2_with fail
 refine (RQInt_1 _).mono ?_
 rintro e w9 ⟨n3, A3, c3, l3, n4, A4, c4, l4, rfl, i3, i4, hb⟩
 replace x0 := x0.below hb
 replace x1 := x1.below hb
 have hw6_ := bt hw5_ hb
 clear hb hw5_
 have J3 := Hi i3
 have J4 := Hi i4
 clear i3 i4
 obtain ⟨f0, f1, f2, f3⟩ := x1.fr
 obtain ⟨r0, r1, r2, r3⟩ := x1.cs
 go_wp2_with fail
 have z2 := x1.stored (.bool n3) (.slice A3 l3.length c3) (.bool n4) (.slice A4 l4.length c4)
 obtain ⟨k0, k1, k2, k3⟩ := z2.cs
 refine bodyPost_ret (v := .tuple #[.agg #[.bool n3, .slice A3 l3.length c3, .bool n4, .slice A4 l4.length c4], .int .i64 0]) (by simp [results, Tryz.results56, go_sem, k0, k1, k2, k3]) rfl ?_
 exact rqe_store hw6_ (by omega) x1 J3.out J4.out) : P := h
theorem RQPow_sC (h : IV w n A c l x) (h2 : IV w m B d k y) (hx : x < 0) (hk : max (bl l) (bl k) ≤ 1) (hz : z.tmod 2 = 0) :
  Calls Tryz.prog 56 #[.agg #[.bool n, .slice A l.length c, .bool m, .slice B k.length d], .int .i64 z] w (RQE w 1 1 0) := by
 have HX := Hi hx
 clear hx
 have HK := Hi hk
 clear hk
 have hz1 : (z.tmod 2 == 0) = true := beq_iff_eq.2 hz
 have hz3 : (z.tmod 2 != 0) = false := by rw [hz]; rfl
 have H1 := Hi h
 have H2 := Hi h2
 clear h h2
 obtain ⟨W1, hW1, hw1, x0, x1⟩ := hdQq w n A c l m B d k
 go_enter Tryz.func56, Tryz.ntmps56
 go_wp2_with fail
 rw [← hW1]
 clear hW1
 obtain ⟨C00, C01, C02, C03⟩ := x0.cs
 go_wp2_with fail
 refine (RQSign_iv (H1.out.below hw1) (H2.out.below hw1)).mono ?_
 rintro e w2 ⟨rfl, hb⟩
 clear C00 C01 C02 C03
 replace x0 := x0.below hb
 replace x1 := x1.below hb
 have hw1_ := bt hw1 hb
 clear hb hw1
 rw [cmpI_neg HX.out]
 obtain ⟨C00, C01, C02, C03⟩ := x0.cs
 go_wp2_with fail
 refine (RQBits_iv (H1.out.below hw1_) (H2.out.below hw1_)).mono ?_
 rintro e w3 ⟨rfl, hb⟩
 clear C00 C01 C02 C03
 replace x0 := x0.below hb
 replace x1 := x1.below hb
 have hw2_ := bt hw1_ hb
 clear hb hw1_
 obtain ⟨K, hKK⟩ : ∃ K, K = max (bl l) (bl k) := ⟨_, rfl⟩
 rw [← hKK]
 rw [← hKK] at HK
 have HKK := Hi hKK
 clear hKK
 have hk1 : ¬ (1 : Int) < (K : Int) := by have := HK.out; omega
 have hk2 : (K : Int) < 2 := by have := HK.out; omega
 obtain ⟨C00, C01, C02, C03⟩ := x0.cs
 go_wp2_with fail
 refine (RQBits_iv (H1.out.below hw2_) (H2.out.below hw2_)).mono ?_
 rintro e w4 ⟨rfl, hb⟩
 clear C00 C01 C02 C03
 replace x0 := x0.below hb
 replace x1 := x1.below hb
 have hw3_ := bt hw2_ hb
 clear hb hw2_
 rw [← HKK.out]
 obtain ⟨C00, C01, C02, C03⟩ := x0.cs
 go_wp2_with fail
 refine (RQSign_iv (H1.out.below hw3_) (H2.out.below hw3_)).mono ?_
 rintro e w5 ⟨rfl, hb⟩
 clear C00 C01 C02 C03
 replace x0 := x0.below hb
 replace x1 := x1.below hb
 have hw4_ := bt hw3_ hb
 clear hb hw3_
 rw [cmpI_neg HX.out]
 obtain ⟨C00, C01, C02, C03⟩ := x0.cs
 go_wp2_with fail
 refine (RQSign_iv (H1.out.below hw4_) (H2.out.below hw4_)).mono ?_
 rintro e w6 ⟨rfl, hb⟩
 clear C00 C01 C02 C03
 replace x0 := x0.below hb
 replace x1 := x1.below hb
 have hw5_ := bt hw4_ hb
 clear hb hw4_
 rw [cmpI_neg HX.out]
 exact mf1aa2
theorem RQPow_sD (h : IV w n A c l x) (h2 : IV w m B d k y) (hx : x = 0) (hk : max (bl l) (bl k) ≤ 1) (hz : z = 0) :
  Calls Tryz.prog 56 #[.agg #[.bool n, .slice A l.length c, .bool m, .slice B k.length d], .int .i64 z] w (RQE w 1 1 0) := by
 have HX := Hi hx
 clear hx
 have HK := Hi hk
 clear hk
 have hz1 : (z == 0) = true := beq_iff_eq.2 hz
 have hz2 : ¬ z < 0 := by omega
 clear hz
 have H1 := Hi h
 have H2 := Hi h2
 clear h h2
 obtain ⟨W1, hW1, hw1, x0, x1⟩ := hdQq w n A c l m B d k
 go_enter Tryz.func56, Tryz.ntmps56
 go_wp2_with fail
 rw [← hW1]
 clear hW1
 obtain ⟨C00, C01, C02, C03⟩ := x0.cs
 go_wp2_with fail
 refine (RQSign_iv (H1.out.below hw1) (H2.out.below hw1)).mono ?_
 rintro e w2 ⟨rfl, hb⟩
 clear C00 C01 C02 C03
 replace x0 := x0.below hb
 replace x1 := x1.below hb
 have hw1_ := bt hw1 hb
 clear hb hw1
 rw [HX.out, show cmpI 0 0 = 0 from rfl]
 obtain ⟨C00, C01, C02, C03⟩ := x0.cs
 go_wp2_with fail
 refine (RQBits_iv (H1.out.below hw1_) (H2.out.below hw1_)).mono ?_
 rintro e w3 ⟨rfl, hb⟩
 clear C00 C01 C02 C03
 replace x0 := x0.below hb
 replace x1 := x1.below hb
 have hw2_ := bt hw1_ hb
 clear hb hw1_
 obtain ⟨K, hKK⟩ : ∃ K, K = max (bl l) (bl k) := ⟨_, rfl⟩
 rw [← hKK]
 rw [← hKK] at HK
 have HKK := Hi hKK
 clear hKK
 have hk1 : ¬ (1 : Int) < (K : Int) := by have := HK.out; omega
 have hk2 : (K : Int) < 2 := by have := HK.out; omega
 obtain ⟨C00, C01, C02, C03⟩ := x0.cs
 go_wp2_with fail
 refine (RQBits_iv (H1.out.below hw2_) (H2.out.below hw2_)).mono ?_
 rintro e w4 ⟨rfl, hb⟩
 clear C00 C01 C02 C03
 replace x0 := x0.below hb
 replace x1 := x1.below hb
 have hw3_ := bt hw2_ hb
 clear hb hw2_
 rw [← HKK.out]
 obtain ⟨C00, C01, C02, C03⟩ := x0.cs
 go_wp2_with fail
 refine (RQSign_iv (H1.out.below hw3_) (H2.out.below hw3_)).mono ?_
 rintro e w5 ⟨rfl, hb⟩
 clear C00 C01 C02 C03
 replace x0 := x0.below hb
 replace x1 := x1.below hb
 have hw4_ := bt hw3_ hb
 clear hb hw3_
 rw [HX.out, show cmpI 0 0 = 0 from rfl]
 obtain ⟨C00, C01, C02, C03⟩ := x0.cs
 go_wp2_with fail
 refine (RQSign_iv (H1.out.below hw4_) (H2.out.below hw4_)).mono ?_
 rintro e w6 ⟨rfl, hb⟩
 clear C00 C01 C02 C03
 replace x0 := x0.below hb
 replace x1 := x1.below hb
 have hw5_ := bt hw4_ hb
 clear hb hw4_
 rw [HX.out, show cmpI 0 0 = 0 from rfl]
 exact mf1aa2
theorem RQPow_sE (h : IV w n A c l x) (h2 : IV w m B d k y) (hx : 0 < x) (hk : max (bl l) (bl k) ≤ 1) :
  Calls Tryz.prog 56 #[.agg #[.bool n, .slice A l.length c, .bool m, .slice B k.length d], .int .i64 z] w (RQE w 1 1 0) := by
 have HX := Hi hx
 clear hx
 have HK := Hi hk
 clear hk
 skip
 have H1 := Hi h
 have H2 := Hi h2
 clear h h2
 obtain ⟨W1, hW1, hw1, x0, x1⟩ := hdQq w n A c l m B d k
 go_enter Tryz.func56, Tryz.ntmps56
 go_wp2_with fail
 rw [← hW1]
 clear hW1
 obtain ⟨C00, C01, C02, C03⟩ := x0.cs
 go_wp2_with fail
 refine (RQSign_iv (H1.out.below hw1) (H2.out.below hw1)).mono ?_
 rintro e w2 ⟨rfl, hb⟩
 clear C00 C01 C02 C03
 replace x0 := x0.below hb
 replace x1 := x1.below hb
 have hw1_ := bt hw1 hb
 clear hb hw1
 rw [cmpI_pos HX.out]
 obtain ⟨C00, C01, C02, C03⟩ := x0.cs
 go_wp2_with fail
 refine (RQBits_iv (H1.out.below hw1_) (H2.out.below hw1_)).mono ?_
 rintro e w3 ⟨rfl, hb⟩
 clear C00 C01 C02 C03
 replace x0 := x0.below hb
 replace x1 := x1.below hb
 have hw2_ := bt hw1_ hb
 clear hb hw1_
 obtain ⟨K, hKK⟩ : ∃ K, K = max (bl l) (bl k) := ⟨_, rfl⟩
 rw [← hKK]
 rw [← hKK] at HK
 have HKK := Hi hKK
 clear hKK
 have hk1 : ¬ (1 : Int) < (K : Int) := by have := HK.out; omega
 have hk2 : (K : Int) < 2 := by have := HK.out; omega
 obtain ⟨C00, C01, C02, C03⟩ := x0.cs
 go_wp2_with fail
 refine (RQBits_iv (H1.out.below hw2_) (H2.out.below hw2_)).mono ?_
 rintro e w4 ⟨rfl, hb⟩
 clear C00 C01 C02 C03
 replace x0 := x0.below hb
 replace x1 := x1.below hb
 have hw3_ := bt hw2_ hb
 clear hb hw2_
 rw [← HKK.out]
 obtain ⟨C00, C01, C02, C03⟩ := x0.cs
 go_wp2_with fail
 refine (RQSign_iv (H1.out.below hw3_) (H2.out.below hw3_)).mono ?_
 rintro e w5 ⟨rfl, hb⟩
 clear C00 C01 C02 C03
 replace x0 := x0.below hb
 replace x1 := x1.below hb
 have hw4_ := bt hw3_ hb
 clear hb hw3_
 rw [cmpI_pos HX.out]
 obtain ⟨C00, C01, C02, C03⟩ := x0.cs
 go_wp2_with fail
 refine (RQSign_iv (H1.out.below hw4_) (H2.out.below hw4_)).mono ?_
 rintro e w6 ⟨rfl, hb⟩
 clear C00 C01 C02 C03
 replace x0 := x0.below hb
 replace x1 := x1.below hb
 have hw5_ := bt hw4_ hb
 clear hb hw4_
 rw [cmpI_pos HX.out]
 exact mf1aa2
end Go.Proofs.YtgljdfblgpdaaaaGreatDoor
