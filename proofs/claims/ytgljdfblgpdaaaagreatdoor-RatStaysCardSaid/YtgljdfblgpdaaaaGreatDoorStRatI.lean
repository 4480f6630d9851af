import Derived.Test.YtgljdfblgpdaaaaGreatDoorPbRatI
import Derived.Test.YtgljdfblgpdaaaaGreatDoorStRatF
set_option linter.unusedSimpArgs false
set_option linter.unusedVariables false
set_option maxRecDepth 100000
set_option maxHeartbeats 4000000
namespace Go.Proofs.YtgljdfblgpdaaaaGreatDoor
open Go.RowKit Go.Shelf
variable {A A' B B' : Option Addr} {c c' d d' : Nat} {k k' l l' : List Nat} {m m' n n' : Bool} {u v x y : Int} {w : World}
theorem QDiv_pos (h : IV w n A c l x) (h2 : IV w m B d k y) (h3 : IV w n' A' c' l' u) (h4 : IV w m' B' d' k' v) (hc1 : Can x y) (hc2 : Can u v) (hx : Lt 120 x) (hy : Lt 120 y) (hu : Lt 120 u) (hv : Lt 120 v) (hs : 0 < u) :
  Calls Tryz.prog 38 #[.agg #[.bool n, .slice A l.length c, .bool m, .slice B k.length d], .agg #[.bool n', .slice A' l'.length c', .bool m', .slice B' k'.length d']] w (RQE w (fN (x * v) (y * u)) (fD (x * v) (y * u)) 0) := by
 have H1 := Hi h
 have H2 := Hi h2
 have H3 := Hi h3
 have H4 := Hi h4
 have HC1 := Hi hc1
 have HC2 := Hi hc2
 have HL := Hi (And.intro hx (And.intro hy (And.intro hu hv)))
 clear h h2 h3 h4 hx hy hu hv hc1 hc2
 have HS := Hi hs
 clear hs
 obtain ⟨W1, hW1, hw1, x0, x1, x2⟩ := hdQQq w n A c l m B d k n' A' c' l' m' B' d' k'
 go_enter Tryz.func38, Tryz.ntmps38
 go_wp2_with fail
 rw [← hW1]
 clear hW1
 refine (QSign_iv (H3.out.below hw1) (H4.out.below hw1)).mono ?_
 rintro e wa ⟨rfl, hb⟩
 replace x0 := x0.below hb
 replace x1 := x1.below hb
 replace x2 := x2.below hb
 have hw1_ := bt hw1 hb
 clear hb hw1
 rw [cmpI_pos HS.out]
 refine g01 ?_
 intros
 have HC := (hj x0.hc x1.hc)
 have HW := Hi hw1_
 have Gx0 := Hi x0
 have Gx1 := Hi x1
 have Gx2 := Hi x2
 clear x0 x1 x2 hw1_
 refine rg0 7 HC fun hHeld => ?_
 refine tk 0 ?_
 refine tk 1 ?_
 refine tk 2 ?_
 refine tk 3 ?_
 refine tk 4 ?_
 refine cl 5 fun K hK => ?_
 go_simp
 go_at_call 104
 refine (upright_pos (H4.out.below (bt HW.out (bw (b0 _)))) (H3.out.below (bt HW.out (bw (b0 _)))) HS.out).mono ?_
 rintro e wb ⟨n1, A1, c1, l1, n2, A2, c2, l2, rfl, i1, i2, hb⟩
 have HBwb := Hi (bt (bw (b0 wa)) hb)
 have HI1 := Hi i1
 have HI2 := Hi i2
 clear hb i1 i2 hHeld
 refine rk hK (HC.out _ HBwb.out) fun hHeld => ?_
 clear hK K
 refine cl 6 fun K hK => ?_
 go_simp
 go_at_call 52
 refine (QMul_iv (H1.out.below (bt HW.out HBwb.out)) (H2.out.below (bt HW.out HBwb.out)) HI1.out HI2.out HC1.out (can_inv HC2.out HS.out) HL.out.1 HL.out.2.1 HL.out.2.2.2 HL.out.2.2.1).mono ?_
 rintro e wc1 ⟨n3, A3, c3, l3, n4, A4, c4, l4, rfl, i3, i4, hb⟩
 have HBwc1 := Hi (bt HBwb.out hb)
 have HI3 := Hi i3
 have HI4 := Hi i4
 clear hb i3 i4 hHeld
 refine rk hK (HC.out _ HBwc1.out) fun hHeld => ?_
 clear hK K
 refine wpAnyH_done (by kernel_rfl) ?_ _
 simp only [HT]
 clear hHeld
 have x2 := Gx2.out.below HBwc1.out
 have hw2_ := bt HW.out HBwc1.out
 have j1 := HI3.out
 have j2 := HI4.out
 obtain ⟨f0, f1, f2, f3⟩ := x2.fr
 obtain ⟨r0, r1, r2, r3⟩ := x2.cs
 go_wp2_with fail
 have z2 := x2.stored (.bool n3) (.slice A3 l3.length c3) (.bool n4) (.slice A4 l4.length c4)
 obtain ⟨k0, k1, k2, k3⟩ := z2.cs
 refine bodyPost_ret (v := .tuple #[.agg #[.bool n3, .slice A3 l3.length c3, .bool n4, .slice A4 l4.length c4], .int .i64 0]) (by simp [results, Tryz.results38, go_sem, k0, k1, k2, k3]) rfl ?_
 exact rqe_store hw2_ (by omega) x2 j1 j2
theorem QDiv_zero (h : IV w n A c l x) (h2 : IV w m B d k y) (h3 : IV w n' A' c' l' u) (h4 : IV w m' B' d' k' v) (hc1 : Can x y) (hc2 : Can u v) (hx : Lt 120 x) (hy : Lt 120 y) (hu : Lt 120 u) (hv : Lt 120 v) (hs : u = 0) :
  Calls Tryz.prog 38 #[.agg #[.bool n, .slice A l.length c, .bool m, .slice B k.length d], .agg #[.bool n', .slice A' l'.length c', .bool m', .slice B' k'.length d']] w (RQE w 0 0 5) := by
 have H1 := Hi h
 have H2 := Hi h2
 have H3 := Hi h3
 have H4 := Hi h4
 have HC1 := Hi hc1
 have HC2 := Hi hc2
 have HL := Hi (And.intro hx (And.intro hy (And.intro hu hv)))
 clear h h2 h3 h4 hx hy hu hv hc1 hc2
 have HS := Hi hs
 clear hs
 obtain ⟨W1, hW1, hw1, x0, x1, x2⟩ := hdQQq w n A c l m B d k n' A' c' l' m' B' d' k'
 go_enter Tryz.func38, Tryz.ntmps38
 go_wp2_with fail
 rw [← hW1]
 clear hW1
 refine (QSign_iv (H3.out.below hw1) (H4.out.below hw1)).mono ?_
 rintro e wa ⟨rfl, hb⟩
 replace x0 := x0.below hb
 replace x1 := x1.below hb
 replace x2 := x2.below hb
 have hw1_ := bt hw1 hb
 clear hb hw1
 rw [show cmpI u 0 = 0 by rw [HS.out]; rfl]
 obtain ⟨f0, f1, f2, f3⟩ := x2.fr
 obtain ⟨r0, r1, r2, r3⟩ := x2.cs
 go_wp2_with fail
 have z2 := x2.stored (.bool false) (.slice none 0 0) (.bool false) (.slice none 0 0)
 obtain ⟨k0, k1, k2, k3⟩ := z2.cs
 refine bodyPost_ret (v := .tuple #[.agg #[.bool false, .slice none 0 0, .bool false, .slice none 0 0], .int .i64 5]) (by simp [results, Tryz.results38, go_sem, k0, k1, k2, k3]) rfl ?_
 exact rqe_store (l := []) (k := []) hw1_ (by omega) x2 (iv0 _) (iv0 _)
open Go.RowKit Go.Shelf
theorem Make_pos {w : World} {n m : Bool} {A B : Option Addr} {c d : Nat} {l k : List Nat} {x y : Int} (h : IV w n A c l x) (h2 : IV w m B d k y) (hs : 0 < y) :
  Calls Tryz.prog 29 #[.agg #[.bool n, .slice A l.length c], .agg #[.bool m, .slice B k.length d]] w (RQE w (fN x y) (fD x y) 0) := by
 have H1 := Hi h
 have H2 := Hi h2
 have HS := Hi hs
 clear h h2 hs
 obtain ⟨W1, hW1, hw1, x0, x1, x2⟩ := hdIIq w n A c l m B d k
 go_enter Tryz.func29, Tryz.ntmps29
 go_wp2_with fail
 rw [← hW1]
 clear hW1
 refine (Is_iv (H1.out.below hw1)).mono ?_
 rintro e wa ⟨rfl, hb⟩
 replace x0 := x0.below hb
 replace x1 := x1.below hb
 replace x2 := x2.below hb
 have hw1_ := bt hw1 hb
 clear hb hw1
 refine g0i1i ?_
 intros
 refine (Is_iv (H2.out.below hw1_)).mono ?_
 rintro e wb ⟨rfl, hb⟩
 replace x0 := x0.below hb
 replace x1 := x1.below hb
 replace x2 := x2.below hb
 have hw2_ := bt hw1_ hb
 clear hb hw1_
 refine g0i1i ?_
 intros
 refine (Sign_iv (H2.out.below hw2_) rfl).mono ?_
 rintro e wd ⟨rfl, hb⟩
 replace x0 := x0.below hb
 replace x1 := x1.below hb
 replace x2 := x2.below hb
 have hw3_ := bt hw2_ hb
 clear hb hw2_
 rw [cmpI_pos HS.out]
 refine g0i1i ?_
 intros
 refine (cancel_iv (H1.out.below hw3_) (H2.out.below hw3_) (.inr (by have := HS.out; omega))).mono ?_
 rintro e we ⟨n1, A1, c1, l1, n2, A2, c2, l2, rfl, i1, i2, hb⟩
 replace x0 := x0.below hb
 replace x1 := x1.below hb
 replace x2 := x2.below hb
 have hw4_ := bt hw3_ hb
 clear hb hw3_
 have HI1 := Hi i1
 have HI2 := Hi i2
 clear i1 i2
 go_wp2_with fail
 have hgp := gcd_pos' (p := x) (q := y) (by have := HS.out; omega)
 have HD := Hi (Int.ediv_pos_of_pos_of_dvd HS.out (by omega) (dvd_gr x y))
 clear hgp
 refine (upright_pos HI1.out HI2.out HD.out).mono ?_
 rintro e wf ⟨n3, A3, c3, l3, n4, A4, c4, l4, rfl, i3, i4, hb⟩
 replace x0 := x0.below hb
 replace x1 := x1.below hb
 replace x2 := x2.below hb
 replace HI1 := Hi (HI1.out.below hb)
 replace HI2 := Hi (HI2.out.below hb)
 have hw5_ := bt hw4_ hb
 clear hb hw4_
 rw [(f_pos HS.out).1] at i3
 rw [(f_pos HS.out).2] at i4
 have j1 := Hi i3
 have j2 := Hi i4
 clear i3 i4
 obtain ⟨f0, f1, f2, f3⟩ := x2.fr
 obtain ⟨r0, r1, r2, r3⟩ := x2.cs
 go_wp2_with fail
 have z2 := x2.stored (.bool n3) (.slice A3 l3.length c3) (.bool n4) (.slice A4 l4.length c4)
 obtain ⟨k0, k1, k2, k3⟩ := z2.cs
 refine bodyPost_ret (v := .tuple #[.agg #[.bool n3, .slice A3 l3.length c3, .bool n4, .slice A4 l4.length c4], .int .i64 0]) (by simp [results, Tryz.results29, go_sem, k0, k1, k2, k3]) rfl ?_
 exact rqe_store hw5_ (by omega) x2 j1.out j2.out
end Go.Proofs.YtgljdfblgpdaaaaGreatDoor
