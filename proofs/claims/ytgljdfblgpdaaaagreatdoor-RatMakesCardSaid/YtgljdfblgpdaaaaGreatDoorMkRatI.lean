import Derived.Test.YtgljdfblgpdaaaaGreatDoorPbRatI
import Derived.Test.YtgljdfblgpdaaaaGreatDoorMkRatF
set_option linter.unusedSimpArgs false
set_option linter.unusedVariables false
set_option maxRecDepth 100000
set_option maxHeartbeats 4000000
namespace Go.Proofs.YtgljdfblgpdaaaaGreatDoor
open Go.RowKit Go.Shelf
variable {A B : Option Addr} {c d : Nat} {k l : List Nat} {m n : Bool} {w : World} {x y : Int}
theorem Make_pos (h : IV w n A c l x) (h2 : IV w m B d k y) (hs : 0 < y) :
  Calls Tryz.prog 29 #[.agg #[.bool n, .slice A l.length c], .agg #[.bool m, .slice B k.length d]] w (RQE w (fN x y) (fD x y) 0) := by
 have H1 := Hi h
 have H2 := Hi h2
 have HS := Hi hs
 clear h h2 hs
 obtain ⟨W1, hW1, hw1, x0, x1, x2⟩ := hdIIq w n A c l m B d k
 go_enter Tryz.func29, Tryz.ntmps29
 go_wp2_with fail
 rw [← hW1]
 clear hW1
 refine (Is_iv (H1.out.below hw1)).mono ?_
 rintro e wa ⟨rfl, hb⟩
 replace x0 := x0.below hb
 replace x1 := x1.below hb
 replace x2 := x2.below hb
 have hw1_ := bt hw1 hb
 clear hb hw1
 refine g0i1i ?_
 intros
 refine (Is_iv (H2.out.below hw1_)).mono ?_
 rintro e wb ⟨rfl, hb⟩
 replace x0 := x0.below hb
 replace x1 := x1.below hb
 replace x2 := x2.below hb
 have hw2_ := bt hw1_ hb
 clear hb hw1_
 refine g0i1i ?_
 intros
 refine (Sign_iv (H2.out.below hw2_) rfl).mono ?_
 rintro e wd ⟨rfl, hb⟩
 replace x0 := x0.below hb
 replace x1 := x1.below hb
 replace x2 := x2.below hb
 have hw3_ := bt hw2_ hb
 clear hb hw2_
 rw [cmpI_pos HS.out]
 refine g0i1i ?_
 intros
 refine (cancel_iv (H1.out.below hw3_) (H2.out.below hw3_) (.inr (by have := HS.out; omega))).mono ?_
 rintro e we ⟨n1, A1, c1, l1, n2, A2, c2, l2, rfl, i1, i2, hb⟩
 replace x0 := x0.below hb
 replace x1 := x1.below hb
 replace x2 := x2.below hb
 have hw4_ := bt hw3_ hb
 clear hb hw3_
 have HI1 := Hi i1
 have HI2 := Hi i2
 clear i1 i2
 go_wp2_with fail
 have hgp := gcd_pos' (p := x) (q := y) (by have := HS.out; omega)
 have HD := Hi (Int.ediv_pos_of_pos_of_dvd HS.out (by omega) (dvd_gr x y))
 clear hgp
 refine (upright_pos HI1.out HI2.out HD.out).mono ?_
 rintro e wf ⟨n3, A3, c3, l3, n4, A4, c4, l4, rfl, i3, i4, hb⟩
 replace x0 := x0.below hb
 replace x1 := x1.below hb
 replace x2 := x2.below hb
 replace HI1 := Hi (HI1.out.below hb)
 replace HI2 := Hi (HI2.out.below hb)
 have hw5_ := bt hw4_ hb
 clear hb hw4_
 rw [(f_pos HS.out).1] at i3
 rw [(f_pos HS.out).2] at i4
 have j1 := Hi i3
 have j2 := Hi i4
 clear i3 i4
 obtain ⟨f0, f1, f2, f3⟩ := x2.fr
 obtain ⟨r0, r1, r2, r3⟩ := x2.cs
 go_wp2_with fail
 have z2 := x2.stored (.bool n3) (.slice A3 l3.length c3) (.bool n4) (.slice A4 l4.length c4)
 obtain ⟨k0, k1, k2, k3⟩ := z2.cs
 refine bodyPost_ret (v := .tuple #[.agg #[.bool n3, .slice A3 l3.length c3, .bool n4, .slice A4 l4.length c4], .int .i64 0]) (by simp [results, Tryz.results29, go_sem, k0, k1, k2, k3]) rfl ?_
 exact rqe_store hw5_ (by omega) x2 j1.out j2.out
theorem Make_zero (h : IV w n A c l x) (h2 : IV w m B d k y) (hs : y = 0) :
  Calls Tryz.prog 29 #[.agg #[.bool n, .slice A l.length c], .agg #[.bool m, .slice B k.length d]] w (RQE w 0 0 5) := by
 have H1 := Hi h
 have H2 := Hi h2
 have HS := Hi hs
 clear h h2 hs
 obtain ⟨W1, hW1, hw1, x0, x1, x2⟩ := hdIIq w n A c l m B d k
 go_enter Tryz.func29, Tryz.ntmps29
 go_wp2_with fail
 rw [← hW1]
 clear hW1
 refine (Is_iv (H1.out.below hw1)).mono ?_
 rintro e wa ⟨rfl, hb⟩
 replace x0 := x0.below hb
 replace x1 := x1.below hb
 replace x2 := x2.below hb
 have hw1_ := bt hw1 hb
 clear hb hw1
 refine g0i1i ?_
 intros
 refine (Is_iv (H2.out.below hw1_)).mono ?_
 rintro e wb ⟨rfl, hb⟩
 replace x0 := x0.below hb
 replace x1 := x1.below hb
 replace x2 := x2.below hb
 have hw2_ := bt hw1_ hb
 clear hb hw1_
 refine g0i1i ?_
 intros
 refine (Sign_iv (H2.out.below hw2_) rfl).mono ?_
 rintro e wd ⟨rfl, hb⟩
 replace x0 := x0.below hb
 replace x1 := x1.below hb
 replace x2 := x2.below hb
 have hw3_ := bt hw2_ hb
 clear hb hw2_
 rw [show cmpI y 0 = 0 by rw [HS.out]; rfl]
 obtain ⟨f0, f1, f2, f3⟩ := x2.fr
 obtain ⟨r0, r1, r2, r3⟩ := x2.cs
 go_wp2_with fail
 have z2 := x2.stored (.bool false) (.slice none 0 0) (.bool false) (.slice none 0 0)
 obtain ⟨k0, k1, k2, k3⟩ := z2.cs
 refine bodyPost_ret (v := .tuple #[.agg #[.bool false, .slice none 0 0, .bool false, .slice none 0 0], .int .i64 5]) (by simp [results, Tryz.results29, go_sem, k0, k1, k2, k3]) rfl ?_
 exact rqe_store (l := []) (k := []) hw3_ (by omega) x2 (iv0 _) (iv0 _)
end Go.Proofs.YtgljdfblgpdaaaaGreatDoor
