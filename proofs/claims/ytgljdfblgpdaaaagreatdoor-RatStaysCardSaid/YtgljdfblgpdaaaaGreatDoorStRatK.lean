import Derived.Test.YtgljdfblgpdaaaaGreatDoorPbRefX
import Derived.Test.YtgljdfblgpdaaaaGreatDoorStRatI
import Derived.Test.YtgljdfblgpdaaaaGreatDoorStNumBackV
set_option linter.unusedSimpArgs false
set_option linter.unusedVariables false
set_option maxRecDepth 100000
set_option maxHeartbeats 4000000
namespace Go.Proofs.YtgljdfblgpdaaaaGreatDoor
open Go.RowKit Go.Shelf
variable {A B : Option Addr} {c d e : Nat} {k l : List Nat} {m n : Bool} {w : World} {x y z : Int}
theorem QPow_n0 (h : IV w n A c l x) (h2 : IV w m B d k y) :
  Calls Tryz.prog 55 #[.agg #[.bool n, .slice A l.length c, .bool m, .slice B k.length d], .int .i64 0] w (RQE w 1 1 0) := by
 have H1 := Hi h
 have H2 := Hi h2
 clear h h2
 obtain ⟨W1, hW1, hw1, x0, x1⟩ := hdQq w n A c l m B d k
 go_enter Tryz.func55, Tryz.ntmps55
 go_wp2_with fail
 rw [← hW1]
 clear hW1
 go_wp2_with fail
 refine (Of_iv _ 1 (by decide) (by decide)).mono ?_
 rintro e w2 ⟨n1, A1, c1, l1, rfl, i1, hb⟩
 replace x0 := x0.below hb
 replace x1 := x1.below hb
 have hw1_ := bt hw1 hb
 clear hb hw1
 have J1 := Hi i1
 clear i1
 go_wp2_with fail
 refine (QWhole_iv J1.out).mono ?_
 rintro e w3 ⟨n3, A3, c3, l3, n4, A4, c4, l4, rfl, i3, i4, hb⟩
 replace x0 := x0.below hb
 replace x1 := x1.below hb
 replace J1 := Hi (J1.out.below hb)
 have hw2_ := bt hw1_ hb
 clear hb hw1_
 have J3 := Hi i3
 have J4 := Hi i4
 clear i3 i4
 obtain ⟨f0, f1, f2, f3⟩ := x1.fr
 obtain ⟨r0, r1, r2, r3⟩ := x1.cs
 go_wp2_with fail
 have z2 := x1.stored (.bool n3) (.slice A3 l3.length c3) (.bool n4) (.slice A4 l4.length c4)
 obtain ⟨k0, k1, k2, k3⟩ := z2.cs
 refine bodyPost_ret (v := .tuple #[.agg #[.bool n3, .slice A3 l3.length c3, .bool n4, .slice A4 l4.length c4], .int .i64 0]) (by simp [results, Tryz.results55, go_sem, k0, k1, k2, k3]) rfl ?_
 exact rqe_store hw2_ (by omega) x1 J3.out J4.out
theorem QPow_zn (h : IV w n A c l x) (h2 : IV w m B d k y) (hx : x = 0) (hz : z < 0) :
  Calls Tryz.prog 55 #[.agg #[.bool n, .slice A l.length c, .bool m, .slice B k.length d], .int .i64 z] w (RQE w 0 0 5) := by
 have HX := Hi hx
 clear hx
 have H1 := Hi h
 have H2 := Hi h2
 clear h h2
 obtain ⟨W1, hW1, hw1, x0, x1⟩ := hdQq w n A c l m B d k
 go_enter Tryz.func55, Tryz.ntmps55
 go_wp2_with fail
 rw [← hW1]
 clear hW1
 have hn1 : (z == 0) = false := beq_eq_false_iff_ne.2 (by omega)
 have hn2 : z < 0 := hz
 obtain ⟨C00, C01, C02, C03⟩ := x0.cs
 go_wp2_with fail
 refine (QSign_iv (H1.out.below hw1) (H2.out.below hw1)).mono ?_
 rintro e w2 ⟨rfl, hb⟩
 clear C00 C01 C02 C03
 replace x0 := x0.below hb
 replace x1 := x1.below hb
 have hw1_ := bt hw1 hb
 clear hb hw1
 rw [HX.out, show cmpI 0 0 = 0 from rfl]
 obtain ⟨f0, f1, f2, f3⟩ := x1.fr
 obtain ⟨r0, r1, r2, r3⟩ := x1.cs
 go_wp2_with fail
 have z2 := x1.stored (.bool false) (.slice none 0 0) (.bool false) (.slice none 0 0)
 obtain ⟨k0, k1, k2, k3⟩ := z2.cs
 refine bodyPost_ret (v := .tuple #[.agg #[.bool false, .slice none 0 0, .bool false, .slice none 0 0], .int .i64 5]) (by simp [results, Tryz.results55, go_sem, k0, k1, k2, k3]) rfl ?_
 exact rqe_store (l := []) (k := []) hw1_ (by omega) x1 (iv0 _) (iv0 _)
theorem QPow_zp (h : IV w n A c l x) (h2 : IV w m B d k y) (hx : x = 0) (hz : 0 < z) :
  Calls Tryz.prog 55 #[.agg #[.bool n, .slice A l.length c, .bool m, .slice B k.length d], .int .i64 z] w (RQE w 0 1 0) := by
 have HX := Hi hx
 clear hx
 have H1 := Hi h
 have H2 := Hi h2
 clear h h2
 obtain ⟨W1, hW1, hw1, x0, x1⟩ := hdQq w n A c l m B d k
 go_enter Tryz.func55, Tryz.ntmps55
 go_wp2_with fail
 rw [← hW1]
 clear hW1
 have hn1 : (z == 0) = false := beq_eq_false_iff_ne.2 (by omega)
 have hn2 : ¬ z < 0 := by omega
 obtain ⟨C00, C01, C02, C03⟩ := x0.cs
 go_wp2_with fail
 refine (QSign_iv (H1.out.below hw1) (H2.out.below hw1)).mono ?_
 rintro e w2 ⟨rfl, hb⟩
 clear C00 C01 C02 C03
 replace x0 := x0.below hb
 replace x1 := x1.below hb
 have hw1_ := bt hw1 hb
 clear hb hw1
 rw [HX.out, show cmpI 0 0 = 0 from rfl]
 obtain ⟨C00, C01, C02, C03⟩ := x0.cs
 go_wp2_with fail
 refine (QSign_iv (H1.out.below hw1_) (H2.out.below hw1_)).mono ?_
 rintro e w3 ⟨rfl, hb⟩
 clear C00 C01 C02 C03
 replace x0 := x0.below hb
 replace x1 := x1.below hb
 have hw2_ := bt hw1_ hb
 clear hb hw1_
 rw [HX.out, show cmpI 0 0 = 0 from rfl]
 go_wp2_with fail
 refine (QWhole_iv (iv0 _)).mono ?_
 rintro e w4 ⟨n3, A3, c3, l3, n4, A4, c4, l4, rfl, i3, i4, hb⟩
 replace x0 := x0.below hb
 replace x1 := x1.below hb
 have hw3_ := bt hw2_ hb
 clear hb hw2_
 have J3 := Hi i3
 have J4 := Hi i4
 clear i3 i4
 obtain ⟨f0, f1, f2, f3⟩ := x1.fr
 obtain ⟨r0, r1, r2, r3⟩ := x1.cs
 go_wp2_with fail
 have z2 := x1.stored (.bool n3) (.slice A3 l3.length c3) (.bool n4) (.slice A4 l4.length c4)
 obtain ⟨k0, k1, k2, k3⟩ := z2.cs
 refine bodyPost_ret (v := .tuple #[.agg #[.bool n3, .slice A3 l3.length c3, .bool n4, .slice A4 l4.length c4], .int .i64 0]) (by simp [results, Tryz.results55, go_sem, k0, k1, k2, k3]) rfl ?_
 exact rqe_store hw3_ (by omega) x1 J3.out J4.out
theorem m1f49e {P : Prop} (h : P := by
 obtain ⟨C00, C01, C02, C03⟩ := x0.cs
 go_wp2_with fail
 rw [HE.out]
 refine (power_jv (H1.out.below hw3_) (H2.out.below hw3_) F1.out F2.out).mono ?_
 rintro e w5 ⟨n3, A3, c3, l3, n4, A4, c4, l4, rfl, i3, i4, hb⟩
 clear C00 C01 C02 C03
 replace x0 := x0.below hb
 replace x1 := x1.below hb
 have hw4_ := bt hw3_ hb
 clear hb hw3_
 have J3 := Hi i3
 have J4 := Hi i4
 clear i3 i4
 obtain ⟨f0, f1, f2, f3⟩ := x1.fr
 obtain ⟨r0, r1, r2, r3⟩ := x1.cs
 go_wp2_with fail
 have z2 := x1.stored (.bool n3) (.slice A3 l3.length c3) (.bool n4) (.slice A4 l4.length c4)
 obtain ⟨k0, k1, k2, k3⟩ := z2.cs
 refine bodyPost_ret (v := .tuple #[.agg #[.bool n3, .slice A3 l3.length c3, .bool n4, .slice A4 l4.length c4], .int .i64 0]) (by simp [results, Tryz.results55, go_sem, k0, k1, k2, k3]) rfl ?_
 exact rqj_store hw4_ (by omega) x1 J3.out J4.out) : P := h
theorem m3e5ae {P : Prop} (h : P := by
 rcases Int.lt_trichotomy x 0 with h | h | h
 ·rw [hsg, cmpI_neg h]; decide
 ·exact absurd h HX.out
 ·rw [hsg, cmpI_pos h]; decide) : P := h
theorem QPow_big (h : IV w n A c l x) (h2 : IV w m B d k y) (hx : x ≠ 0) (hn : z ≠ 0 ∧ -9223372036854775808 ≤ z ∧ z ≤ 9223372036854775807) (hk : 1 < max (bl l) (bl k)) (f1 : Fit l e) (f2 : Fit k e) (hlim : z ≤ (1048576 / max (bl l) (bl k) : Nat) ∧ -((1048576 / max (bl l) (bl k) : Nat) : Int) ≤ z) (he : z = (e : Int)) :
  Calls Tryz.prog 55 #[.agg #[.bool n, .slice A l.length c, .bool m, .slice B k.length d], .int .i64 z] w (RQJ 600 w (x ^ e) (y ^ e) 0) := by
 have HX := Hi hx
 clear hx
 have HN := Hi hn
 clear hn
 have F1 := Hi f1
 have F2 := Hi f2
 clear f1 f2
 have HK := Hi hk
 clear hk
 have HE := Hi he
 clear he
 have HLIM := Hi hlim
 clear hlim
 have hn1 : (z == 0) = false := beq_eq_false_iff_ne.2 HN.out.1
 have H1 := Hi h
 have H2 := Hi h2
 clear h h2
 obtain ⟨W1, hW1, hw1, x0, x1⟩ := hdQq w n A c l m B d k
 go_enter Tryz.func55, Tryz.ntmps55
 go_wp2_with fail
 rw [← hW1]
 clear hW1
 obtain ⟨C00, C01, C02, C03⟩ := x0.cs
 go_wp2_with fail
 refine (QSign_iv (H1.out.below hw1) (H2.out.below hw1)).mono ?_
 rintro e w2 ⟨rfl, hb⟩
 clear C00 C01 C02 C03
 replace x0 := x0.below hb
 replace x1 := x1.below hb
 have hw1_ := bt hw1 hb
 clear hb hw1
 obtain ⟨sg, hsg⟩ : ∃ s, s = cmpI x 0 := ⟨_, rfl⟩
 have hsg0 : sg ≠ 0 := by
  exact m3e5ae
 rw [← hsg]
 have hsg1 : (sg == 0) = false := beq_eq_false_iff_ne.2 hsg0
 have HSG := Hi hsg
 clear hsg
 obtain ⟨C00, C01, C02, C03⟩ := x0.cs
 go_wp2_with fail
 refine (QSign_iv (H1.out.below hw1_) (H2.out.below hw1_)).mono ?_
 rintro e w3 ⟨rfl, hb⟩
 clear C00 C01 C02 C03
 replace x0 := x0.below hb
 replace x1 := x1.below hb
 have hw2_ := bt hw1_ hb
 clear hb hw1_
 rw [← HSG.out]
 obtain ⟨C00, C01, C02, C03⟩ := x0.cs
 go_wp2_with fail
 refine (QBits_iv (H1.out.below hw2_) (H2.out.below hw2_)).mono ?_
 rintro e w4 ⟨rfl, hb⟩
 clear C00 C01 C02 C03
 replace x0 := x0.below hb
 replace x1 := x1.below hb
 have hw3_ := bt hw2_ hb
 clear hb hw2_
 obtain ⟨K, hKK⟩ : ∃ K, K = max (bl l) (bl k) := ⟨_, rfl⟩
 rw [← hKK]
 rw [← hKK] at HK
 have hk1 : ¬ (K : Int) ≤ 1 := by have := HK.out; omega
 have hk0 : ((K : Int) == 0) = false := beq_eq_false_iff_ne.2 (by have := HK.out; omega)
 obtain ⟨D, hD⟩ : ∃ D, D = 1048576 / K := ⟨_, rfl⟩
 have hdiv : (1048576 : Int).tdiv (K : Int) = (D : Int) := by rw [Int.tdiv_eq_ediv_of_nonneg (by omega), hD]; simp
 have hDl : D ≤ 1048576 := by rw [hD]; exact Nat.div_le_self _ _
 have hdiv2 : (1048576 : Int) / (K : Int) = (D : Int) := by rw [hD]; simp
 have hwD : wrap64 (D : Int) = (D : Int) := by unfold wrap64; omega
 have hwn : wrap64 (-(D : Int)) = -(D : Int) := by unfold wrap64; omega
 rw [← hKK, ← hD] at HLIM
 have hz1 : ¬ (D : Int) < z := by have := HLIM.out; omega
 have hz2 : ¬ z < -(D : Int) := by have := HLIM.out; omega
 clear hKK hD
 have hzn : ¬ z < 0 := by have h1 := HE.out; omega
 exact m1f49e
theorem m9be87 {P : Prop} (h : P := by
 rintro e w6 ⟨n3, A3, c3, l3, n4, A4, c4, l4, rfl, i3, i4, hb⟩
 replace x0 := x0.below hb
 replace x1 := x1.below hb
 replace J5 := Hi (J5.out.below hb)
 replace J6 := Hi (J6.out.below hb)
 have hw5_ := bt hw4_ hb
 clear hb hw4_
 have J3 := Hi i3
 have J4 := Hi i4
 clear i3 i4
 obtain ⟨f0, f1, f2, f3⟩ := x1.fr
 obtain ⟨r0, r1, r2, r3⟩ := x1.cs
 go_wp2_with fail
 have z2 := x1.stored (.bool n3) (.slice A3 l3.length c3) (.bool n4) (.slice A4 l4.length c4)
 obtain ⟨k0, k1, k2, k3⟩ := z2.cs
 refine bodyPost_ret (v := .tuple #[.agg #[.bool n3, .slice A3 l3.length c3, .bool n4, .slice A4 l4.length c4], .int .i64 0]) (by simp [results, Tryz.results55, go_sem, k0, k1, k2, k3]) rfl ?_
 exact rqj_store hw5_ (by omega) x1 J3.out J4.out) : P := h
theorem mab7fc {P : Prop} (h : P := by
 obtain ⟨C00, C01, C02, C03⟩ := x0.cs
 go_wp2_with fail
 refine (upright_pos (H2.out.below hw3_) (H1.out.below hw3_) HXS.out).mono ?_
 rintro e w5 ⟨n5, A5, c5, l5, n6, A6, c6, l6, rfl, i5, i6, hb⟩
 clear C00 C01 C02 C03
 replace x0 := x0.below hb
 replace x1 := x1.below hb
 have hw4_ := bt hw3_ hb
 clear hb hw3_
 have J5 := Hi i5
 have J6 := Hi i6
 clear i5 i6
 go_wp2_with fail
 refine (power_jv J5.out J6.out (fit_iv H2.out J5.out rfl F2.out) (fit_iv H1.out J6.out rfl F1.out)).mono ?_
 exact m9be87) : P := h
theorem QPow_bigp (h : IV w n A c l x) (h2 : IV w m B d k y) (hx : x ≠ 0) (hn : z ≠ 0 ∧ -9223372036854775808 ≤ z ∧ z ≤ 9223372036854775807) (hk : 1 < max (bl l) (bl k)) (f1 : Fit l e) (f2 : Fit k e) (hlim : z ≤ (1048576 / max (bl l) (bl k) : Nat) ∧ -((1048576 / max (bl l) (bl k) : Nat) : Int) ≤ z) (he : z = -(e : Int)) (hxs : 0 < x) :
  Calls Tryz.prog 55 #[.agg #[.bool n, .slice A l.length c, .bool m, .slice B k.length d], .int .i64 z] w (RQJ 600 w (y ^ e) (x ^ e) 0) := by
 have HX := Hi hx
 clear hx
 have HN := Hi hn
 clear hn
 have F1 := Hi f1
 have F2 := Hi f2
 clear f1 f2
 have HK := Hi hk
 clear hk
 have HXS := Hi hxs
 clear hxs
 have HE := Hi he
 clear he
 have HLIM := Hi hlim
 clear hlim
 have hn1 : (z == 0) = false := beq_eq_false_iff_ne.2 HN.out.1
 have H1 := Hi h
 have H2 := Hi h2
 clear h h2
 obtain ⟨W1, hW1, hw1, x0, x1⟩ := hdQq w n A c l m B d k
 go_enter Tryz.func55, Tryz.ntmps55
 go_wp2_with fail
 rw [← hW1]
 clear hW1
 obtain ⟨C00, C01, C02, C03⟩ := x0.cs
 go_wp2_with fail
 refine (QSign_iv (H1.out.below hw1) (H2.out.below hw1)).mono ?_
 rintro e w2 ⟨rfl, hb⟩
 clear C00 C01 C02 C03
 replace x0 := x0.below hb
 replace x1 := x1.below hb
 have hw1_ := bt hw1 hb
 clear hb hw1
 obtain ⟨sg, hsg⟩ : ∃ s, s = cmpI x 0 := ⟨_, rfl⟩
 have hsg0 : sg ≠ 0 := by
  rcases Int.lt_trichotomy x 0 with h | h | h
  ·rw [hsg, cmpI_neg h]; decide
  ·exact absurd h HX.out
  ·rw [hsg, cmpI_pos h]; decide
 rw [← hsg]
 have hsg1 : (sg == 0) = false := beq_eq_false_iff_ne.2 hsg0
 have HSG := Hi hsg
 clear hsg
 obtain ⟨C00, C01, C02, C03⟩ := x0.cs
 go_wp2_with fail
 refine (QSign_iv (H1.out.below hw1_) (H2.out.below hw1_)).mono ?_
 rintro e w3 ⟨rfl, hb⟩
 clear C00 C01 C02 C03
 replace x0 := x0.below hb
 replace x1 := x1.below hb
 have hw2_ := bt hw1_ hb
 clear hb hw1_
 rw [← HSG.out]
 obtain ⟨C00, C01, C02, C03⟩ := x0.cs
 go_wp2_with fail
 refine (QBits_iv (H1.out.below hw2_) (H2.out.below hw2_)).mono ?_
 rintro e w4 ⟨rfl, hb⟩
 clear C00 C01 C02 C03
 replace x0 := x0.below hb
 replace x1 := x1.below hb
 have hw3_ := bt hw2_ hb
 clear hb hw2_
 obtain ⟨K, hKK⟩ : ∃ K, K = max (bl l) (bl k) := ⟨_, rfl⟩
 rw [← hKK]
 rw [← hKK] at HK
 have hk1 : ¬ (K : Int) ≤ 1 := by have := HK.out; omega
 have hk0 : ((K : Int) == 0) = false := beq_eq_false_iff_ne.2 (by have := HK.out; omega)
 obtain ⟨D, hD⟩ : ∃ D, D = 1048576 / K := ⟨_, rfl⟩
 have hdiv : (1048576 : Int).tdiv (K : Int) = (D : Int) := by rw [Int.tdiv_eq_ediv_of_nonneg (by omega), hD]; simp
 have hDl : D ≤ 1048576 := by rw [hD]; exact Nat.div_le_self _ _
 have hdiv2 : (1048576 : Int) / (K : Int) = (D : Int) := by rw [hD]; simp
 have hwD : wrap64 (D : Int) = (D : Int) := by unfold wrap64; omega
 have hwn : wrap64 (-(D : Int)) = -(D : Int) := by unfold wrap64; omega
 rw [← hKK, ← hD] at HLIM
 have hz1 : ¬ (D : Int) < z := by have := HLIM.out; omega
 have hz2 : ¬ z < -(D : Int) := by have := HLIM.out; omega
 clear hKK hD
 have hzn : z < 0 := by have h1 := HE.out; have h2 := HN.out; omega
 have hwz : wrap64 (-z) = (e : Int) := by have h1 := HE.out; have h2 := F1.out.top; unfold wrap64; omega
 have hmz : -z = (e : Int) := by have h1 := HE.out; omega
 exact mab7fc
theorem QPow_one (h : IV w n A c l x) (h2 : IV w m B d k y) (hx : x ≠ 0) (hn : z ≠ 0 ∧ -9223372036854775808 ≤ z ∧ z ≤ 9223372036854775807) (hk : max (bl l) (bl k) ≤ 1) (f1 : Fit l e) (f2 : Fit k e) (he : z.tmod 2 = (e : Int)) :
  Calls Tryz.prog 55 #[.agg #[.bool n, .slice A l.length c, .bool m, .slice B k.length d], .int .i64 z] w (RQJ 600 w (x ^ e) (y ^ e) 0) := by
 have HX := Hi hx
 clear hx
 have HN := Hi hn
 clear hn
 have F1 := Hi f1
 have F2 := Hi f2
 clear f1 f2
 have HK := Hi hk
 clear hk
 have HE := Hi he
 clear he
 have hn1 : (z == 0) = false := beq_eq_false_iff_ne.2 HN.out.1
 have H1 := Hi h
 have H2 := Hi h2
 clear h h2
 obtain ⟨W1, hW1, hw1, x0, x1⟩ := hdQq w n A c l m B d k
 go_enter Tryz.func55, Tryz.ntmps55
 go_wp2_with fail
 rw [← hW1]
 clear hW1
 obtain ⟨C00, C01, C02, C03⟩ := x0.cs
 go_wp2_with fail
 refine (QSign_iv (H1.out.below hw1) (H2.out.below hw1)).mono ?_
 rintro e w2 ⟨rfl, hb⟩
 clear C00 C01 C02 C03
 replace x0 := x0.below hb
 replace x1 := x1.below hb
 have hw1_ := bt hw1 hb
 clear hb hw1
 obtain ⟨sg, hsg⟩ : ∃ s, s = cmpI x 0 := ⟨_, rfl⟩
 have hsg0 : sg ≠ 0 := by
  exact m3e5ae
 rw [← hsg]
 have hsg1 : (sg == 0) = false := beq_eq_false_iff_ne.2 hsg0
 have HSG := Hi hsg
 clear hsg
 obtain ⟨C00, C01, C02, C03⟩ := x0.cs
 go_wp2_with fail
 refine (QSign_iv (H1.out.below hw1_) (H2.out.below hw1_)).mono ?_
 rintro e w3 ⟨rfl, hb⟩
 clear C00 C01 C02 C03
 replace x0 := x0.below hb
 replace x1 := x1.below hb
 have hw2_ := bt hw1_ hb
 clear hb hw1_
 rw [← HSG.out]
 obtain ⟨C00, C01, C02, C03⟩ := x0.cs
 go_wp2_with fail
 refine (QBits_iv (H1.out.below hw2_) (H2.out.below hw2_)).mono ?_
 rintro e w4 ⟨rfl, hb⟩
 clear C00 C01 C02 C03
 replace x0 := x0.below hb
 replace x1 := x1.below hb
 have hw3_ := bt hw2_ hb
 clear hb hw2_
 obtain ⟨K, hKK⟩ : ∃ K, K = max (bl l) (bl k) := ⟨_, rfl⟩
 rw [← hKK]
 rw [← hKK] at HK
 have hk1 : (K : Int) ≤ 1 := by have := HK.out; omega
 clear hKK
 have hzn : ¬ z.tmod 2 < 0 := by rw [HE.out]; omega
 exact m1f49e
theorem QPow_onep (h : IV w n A c l x) (h2 : IV w m B d k y) (hx : x ≠ 0) (hn : z ≠ 0 ∧ -9223372036854775808 ≤ z ∧ z ≤ 9223372036854775807) (hk : max (bl l) (bl k) ≤ 1) (f1 : Fit l e) (f2 : Fit k e) (he : z.tmod 2 = -(e : Int)) (hxs : 0 < x) (hep : 0 < e) :
  Calls Tryz.prog 55 #[.agg #[.bool n, .slice A l.length c, .bool m, .slice B k.length d], .int .i64 z] w (RQJ 600 w (y ^ e) (x ^ e) 0) := by
 have HX := Hi hx
 clear hx
 have HN := Hi hn
 clear hn
 have F1 := Hi f1
 have F2 := Hi f2
 clear f1 f2
 have HK := Hi hk
 clear hk
 have HXS := Hi hxs
 clear hxs
 have HE := Hi he
 clear he
 have HEP := Hi hep
 clear hep
 have hn1 : (z == 0) = false := beq_eq_false_iff_ne.2 HN.out.1
 have H1 := Hi h
 have H2 := Hi h2
 clear h h2
 obtain ⟨W1, hW1, hw1, x0, x1⟩ := hdQq w n A c l m B d k
 go_enter Tryz.func55, Tryz.ntmps55
 go_wp2_with fail
 rw [← hW1]
 clear hW1
 obtain ⟨C00, C01, C02, C03⟩ := x0.cs
 go_wp2_with fail
 refine (QSign_iv (H1.out.below hw1) (H2.out.below hw1)).mono ?_
 rintro e w2 ⟨rfl, hb⟩
 clear C00 C01 C02 C03
 replace x0 := x0.below hb
 replace x1 := x1.below hb
 have hw1_ := bt hw1 hb
 clear hb hw1
 obtain ⟨sg, hsg⟩ : ∃ s, s = cmpI x 0 := ⟨_, rfl⟩
 have hsg0 : sg ≠ 0 := by
  rcases Int.lt_trichotomy x 0 with h | h | h
  ·rw [hsg, cmpI_neg h]; decide
  ·exact absurd h HX.out
  ·rw [hsg, cmpI_pos h]; decide
 rw [← hsg]
 have hsg1 : (sg == 0) = false := beq_eq_false_iff_ne.2 hsg0
 have HSG := Hi hsg
 clear hsg
 obtain ⟨C00, C01, C02, C03⟩ := x0.cs
 go_wp2_with fail
 refine (QSign_iv (H1.out.below hw1_) (H2.out.below hw1_)).mono ?_
 rintro e w3 ⟨rfl, hb⟩
 clear C00 C01 C02 C03
 replace x0 := x0.below hb
 replace x1 := x1.below hb
 have hw2_ := bt hw1_ hb
 clear hb hw1_
 rw [← HSG.out]
 obtain ⟨C00, C01, C02, C03⟩ := x0.cs
 go_wp2_with fail
 refine (QBits_iv (H1.out.below hw2_) (H2.out.below hw2_)).mono ?_
 rintro e w4 ⟨rfl, hb⟩
 clear C00 C01 C02 C03
 replace x0 := x0.below hb
 replace x1 := x1.below hb
 have hw3_ := bt hw2_ hb
 clear hb hw2_
 obtain ⟨K, hKK⟩ : ∃ K, K = max (bl l) (bl k) := ⟨_, rfl⟩
 rw [← hKK]
 rw [← hKK] at HK
 have hk1 : (K : Int) ≤ 1 := by have := HK.out; omega
 clear hKK
 have hzn : z.tmod 2 < 0 := by rw [HE.out]; have h1 := HEP.out; omega
 have hwz : wrap64 (-(z.tmod 2)) = (e : Int) := by rw [HE.out]; have h2 := F1.out.top; unfold wrap64; omega
 exact mab7fc
theorem QPow_onen (h : IV w n A c l x) (h2 : IV w m B d k y) (hx : x ≠ 0) (hn : z ≠ 0 ∧ -9223372036854775808 ≤ z ∧ z ≤ 9223372036854775807) (hk : max (bl l) (bl k) ≤ 1) (f1 : Fit l e) (f2 : Fit k e) (he : z.tmod 2 = -(e : Int)) (hxs : x < 0) (hep : 0 < e) :
  Calls Tryz.prog 55 #[.agg #[.bool n, .slice A l.length c, .bool m, .slice B k.length d], .int .i64 z] w (RQJ 600 w ((-y) ^ e) ((-x) ^ e) 0) := by
 have HX := Hi hx
 clear hx
 have HN := Hi hn
 clear hn
 have F1 := Hi f1
 have F2 := Hi f2
 clear f1 f2
 have HK := Hi hk
 clear hk
 have HXS := Hi hxs
 clear hxs
 have HE := Hi he
 clear he
 have HEP := Hi hep
 clear hep
 have hn1 : (z == 0) = false := beq_eq_false_iff_ne.2 HN.out.1
 have H1 := Hi h
 have H2 := Hi h2
 clear h h2
 obtain ⟨W1, hW1, hw1, x0, x1⟩ := hdQq w n A c l m B d k
 go_enter Tryz.func55, Tryz.ntmps55
 go_wp2_with fail
 rw [← hW1]
 clear hW1
 obtain ⟨C00, C01, C02, C03⟩ := x0.cs
 go_wp2_with fail
 refine (QSign_iv (H1.out.below hw1) (H2.out.below hw1)).mono ?_
 rintro e w2 ⟨rfl, hb⟩
 clear C00 C01 C02 C03
 replace x0 := x0.below hb
 replace x1 := x1.below hb
 have hw1_ := bt hw1 hb
 clear hb hw1
 obtain ⟨sg, hsg⟩ : ∃ s, s = cmpI x 0 := ⟨_, rfl⟩
 have hsg0 : sg ≠ 0 := by
  exact m3e5ae
 rw [← hsg]
 have hsg1 : (sg == 0) = false := beq_eq_false_iff_ne.2 hsg0
 have HSG := Hi hsg
 clear hsg
 obtain ⟨C00, C01, C02, C03⟩ := x0.cs
 go_wp2_with fail
 refine (QSign_iv (H1.out.below hw1_) (H2.out.below hw1_)).mono ?_
 rintro e w3 ⟨rfl, hb⟩
 clear C00 C01 C02 C03
 replace x0 := x0.below hb
 replace x1 := x1.below hb
 have hw2_ := bt hw1_ hb
 clear hb hw1_
 rw [← HSG.out]
 obtain ⟨C00, C01, C02, C03⟩ := x0.cs
 go_wp2_with fail
 refine (QBits_iv (H1.out.below hw2_) (H2.out.below hw2_)).mono ?_
 rintro e w4 ⟨rfl, hb⟩
 clear C00 C01 C02 C03
 replace x0 := x0.below hb
 replace x1 := x1.below hb
 have hw3_ := bt hw2_ hb
 clear hb hw2_
 obtain ⟨K, hKK⟩ : ∃ K, K = max (bl l) (bl k) := ⟨_, rfl⟩
 rw [← hKK]
 rw [← hKK] at HK
 have hk1 : (K : Int) ≤ 1 := by have := HK.out; omega
 clear hKK
 have hzn : z.tmod 2 < 0 := by rw [HE.out]; have h1 := HEP.out; omega
 have hwz : wrap64 (-(z.tmod 2)) = (e : Int) := by rw [HE.out]; have h2 := F1.out.top; unfold wrap64; omega
 obtain ⟨C00, C01, C02, C03⟩ := x0.cs
 go_wp2_with fail
 refine (upright_neg (H2.out.below hw3_) (H1.out.below hw3_) HXS.out).mono ?_
 rintro e w5 ⟨n5, A5, c5, l5, n6, A6, c6, l6, rfl, i5, i6, hb⟩
 clear C00 C01 C02 C03
 replace x0 := x0.below hb
 replace x1 := x1.below hb
 have hw4_ := bt hw3_ hb
 clear hb hw3_
 have J5 := Hi i5
 have J6 := Hi i6
 clear i5 i6
 go_wp2_with fail
 refine (power_jv J5.out J6.out (fit_iv H2.out J5.out (by rw [Int.natAbs_neg]) F2.out) (fit_iv H1.out J6.out (by rw [Int.natAbs_neg]) F1.out)).mono ?_
 exact m9be87
end Go.Proofs.YtgljdfblgpdaaaaGreatDoor
