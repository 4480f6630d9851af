import Derived.Test.YtgljdfblgpdaaaaGreatDoorPbRatG
set_option linter.unusedSimpArgs false
set_option linter.unusedVariables false
set_option maxRecDepth 100000
set_option maxHeartbeats 4000000
namespace Go.Proofs.YtgljdfblgpdaaaaGreatDoor
open Go.RowKit Go.Shelf
variable {A A' B B' : Option Addr} {c c' d d' : Nat} {k k' l l' : List Nat} {m m' n n' : Bool} {u v x y : Int} {w : World}
def RQE (w : World) (p q er : Int) (e : Ending) (w' : World) : Prop :=
 ∃ n A c l m B d k, e = .returned (.tuple #[.agg #[.bool n, .slice A l.length c, .bool m, .slice B k.length d], .int .i64 er]) ∧ IV w' n A c l p ∧ IV w' m B d k q ∧ Below w.heap.size w w'
theorem rqe_store {w W : World} {r : Nat} {x y er : Int} (hW : Below w.heap.size w W) (hp : w.heap.size ≤ r) (hbx : Box4 W r (.bool false) (.slice none 0 0) (.bool false) (.slice none 0 0)) (h : IV W n A c l x) (h2 : IV W m B d k y) :
  RQE w x y er (.returned (.tuple #[.agg #[.bool n, .slice A l.length c, .bool m, .slice B k.length d], .int .i64 er])) ((((W.setCell ⟨r, 0, none⟩ (.bool n)).setCell ⟨r, 1, none⟩ (.slice A l.length c)).setCell ⟨r, 2, none⟩ (.bool m)).setCell ⟨r, 3, none⟩ (.slice B k.length d)) :=
 ⟨n, A, c, l, m, B, d, k, rfl, h.four hbx _ _ _ _, h2.four hbx _ _ _ _, b4 hW hp _ _ _ _⟩
theorem f_neg {p q : Int} (hq : q ≠ 0) : fN (-p) (-q) = fN p q ∧ fD (-p) (-q) = fD p q := by
 refine f_eq (can_f (by omega)) hq ?_
 have h := f_cross (p := -p) (q := -q) (by omega)
 rw [Int.mul_neg, Int.neg_mul] at h
 omega
theorem QSub_iv (h : IV w n A c l x) (h2 : IV w m B d k y) (h3 : IV w n' A' c' l' u) (h4 : IV w m' B' d' k' v) (hc1 : Can x y) (hc2 : Can u v) (hx : Lt 120 x) (hy : Lt 120 y) (hu : Lt 120 u) (hv : Lt 120 v) :
  Calls Tryz.prog 50 #[.agg #[.bool n, .slice A l.length c, .bool m, .slice B k.length d], .agg #[.bool n', .slice A' l'.length c', .bool m', .slice B' k'.length d']] w (RIQ w (fN (x * v - u * y) (y * v)) (fD (x * v - u * y) (y * v))) := by
 have H1 := Hi h
 have H2 := Hi h2
 have H3 := Hi h3
 have H4 := Hi h4
 have HC1 := Hi hc1
 have HC2 := Hi hc2
 have HL := Hi (And.intro hx (And.intro hy (And.intro hu hv)))
 clear h h2 h3 h4 hx hy hu hv hc1 hc2
 obtain ⟨W1, hW1, hw1, x0, x1, x2⟩ := hdQQq w n A c l m B d k n' A' c' l' m' B' d' k'
 go_enter Tryz.func50, Tryz.ntmps50
 go_wp2_with fail
 rw [← hW1]
 clear hW1
 refine g01 ?_
 intros
 have HC := (hj x0.hc x1.hc)
 have HW := Hi hw1
 have Gx0 := Hi x0
 have Gx1 := Hi x1
 have Gx2 := Hi x2
 clear x0 x1 x2 hw1
 refine rg0 4 HC fun hHeld => ?_
 refine tk 0 ?_
 refine tk 1 ?_
 refine cl 2 fun K hK => ?_
 go_simp
 go_at_call 44
 refine (QNeg_iv (H3.out.below (bt HW.out (bw (b0 _)))) (H4.out.below (bt HW.out (bw (b0 _))))).mono ?_
 rintro e wa ⟨n1, A1, c1, l1, n2, A2, c2, l2, rfl, i1, i2, hb⟩
 have HBwa := Hi (bt (bw (b0 W1)) hb)
 have HI1 := Hi i1
 have HI2 := Hi i2
 clear hb i1 i2 hHeld
 refine rk hK (HC.out _ HBwa.out) fun hHeld => ?_
 clear hK K
 refine cl 3 fun K hK => ?_
 go_simp
 go_at_call 48
 refine (QAdd_iv (H1.out.below (bt HW.out HBwa.out)) (H2.out.below (bt HW.out HBwa.out)) HI1.out HI2.out HC1.out (can_neg HC2.out) HL.out.1 HL.out.2.1 (lt_neg HL.out.2.2.1) HL.out.2.2.2).mono ?_
 rintro e wb ⟨n3, A3, c3, l3, n4, A4, c4, l4, rfl, i3, i4, hb⟩
 have HBwb := Hi (bt HBwa.out hb)
 have HI3 := Hi i3
 have HI4 := Hi i4
 clear hb i3 i4 hHeld
 refine rk hK (HC.out _ HBwb.out) fun hHeld => ?_
 clear hK K
 refine wpAnyH_done (by kernel_rfl) ?_ _
 simp only [HT]
 clear hHeld
 have x2 := Gx2.out.below HBwb.out
 have hw1_ := bt HW.out HBwb.out
 have j1 := HI3.out
 have j2 := HI4.out
 rw [Int.neg_mul, ← Int.sub_eq_add_neg] at j1 j2
 obtain ⟨f0, f1, f2, f3⟩ := x2.fr
 obtain ⟨r0, r1, r2, r3⟩ := x2.cs
 go_wp2_with fail
 have z2 := x2.stored (.bool n3) (.slice A3 l3.length c3) (.bool n4) (.slice A4 l4.length c4)
 obtain ⟨k0, k1, k2, k3⟩ := z2.cs
 refine bodyPost_ret (v := .agg #[.bool n3, .slice A3 l3.length c3, .bool n4, .slice A4 l4.length c4]) (by simp [results, Tryz.results50, go_sem, k0, k1, k2, k3]) rfl ?_
 exact riq_store hw1_ (by omega) x2 j1 j2
theorem iv0 (W : World) : IV W false none 0 [] 0 := ⟨Nat.le_refl _, WS.nil_ _ _, rfl, rfl, by decide⟩
theorem QDiv_neg (h : IV w n A c l x) (h2 : IV w m B d k y) (h3 : IV w n' A' c' l' u) (h4 : IV w m' B' d' k' v) (hc1 : Can x y) (hc2 : Can u v) (hx : Lt 120 x) (hy : Lt 120 y) (hu : Lt 120 u) (hv : Lt 120 v) (hs : u < 0) :
  Calls Tryz.prog 38 #[.agg #[.bool n, .slice A l.length c, .bool m, .slice B k.length d], .agg #[.bool n', .slice A' l'.length c', .bool m', .slice B' k'.length d']] w (RQE w (fN (x * v) (y * u)) (fD (x * v) (y * u)) 0) := by
 have H1 := Hi h
 have H2 := Hi h2
 have H3 := Hi h3
 have H4 := Hi h4
 have HC1 := Hi hc1
 have HC2 := Hi hc2
 have HL := Hi (And.intro hx (And.intro hy (And.intro hu hv)))
 clear h h2 h3 h4 hx hy hu hv hc1 hc2
 have HS := Hi hs
 clear hs
 obtain ⟨W1, hW1, hw1, x0, x1, x2⟩ := hdQQq w n A c l m B d k n' A' c' l' m' B' d' k'
 go_enter Tryz.func38, Tryz.ntmps38
 go_wp2_with fail
 rw [← hW1]
 clear hW1
 refine (QSign_iv (H3.out.below hw1) (H4.out.below hw1)).mono ?_
 rintro e wa ⟨rfl, hb⟩
 replace x0 := x0.below hb
 replace x1 := x1.below hb
 replace x2 := x2.below hb
 have hw1_ := bt hw1 hb
 clear hb hw1
 rw [cmpI_neg HS.out]
 refine g01 ?_
 intros
 have HC := (hj x0.hc x1.hc)
 have HW := Hi hw1_
 have Gx0 := Hi x0
 have Gx1 := Hi x1
 have Gx2 := Hi x2
 clear x0 x1 x2 hw1_
 refine rg0 7 HC fun hHeld => ?_
 refine tk 0 ?_
 refine tk 1 ?_
 refine tk 2 ?_
 refine tk 3 ?_
 refine tk 4 ?_
 refine cl 5 fun K hK => ?_
 go_simp
 go_at_call 104
 refine (upright_neg (H4.out.below (bt HW.out (bw (b0 _)))) (H3.out.below (bt HW.out (bw (b0 _)))) HS.out).mono ?_
 rintro e wb ⟨n1, A1, c1, l1, n2, A2, c2, l2, rfl, i1, i2, hb⟩
 have HBwb := Hi (bt (bw (b0 wa)) hb)
 have HI1 := Hi i1
 have HI2 := Hi i2
 clear hb i1 i2 hHeld
 refine rk hK (HC.out _ HBwb.out) fun hHeld => ?_
 clear hK K
 refine cl 6 fun K hK => ?_
 go_simp
 go_at_call 52
 refine (QMul_iv (H1.out.below (bt HW.out HBwb.out)) (H2.out.below (bt HW.out HBwb.out)) HI1.out HI2.out HC1.out (can_inv_neg HC2.out HS.out) HL.out.1 HL.out.2.1 (lt_neg HL.out.2.2.2) (lt_neg HL.out.2.2.1)).mono ?_
 rintro e wc1 ⟨n3, A3, c3, l3, n4, A4, c4, l4, rfl, i3, i4, hb⟩
 have HBwc1 := Hi (bt HBwb.out hb)
 have HI3 := Hi i3
 have HI4 := Hi i4
 clear hb i3 i4 hHeld
 refine rk hK (HC.out _ HBwc1.out) fun hHeld => ?_
 clear hK K
 refine wpAnyH_done (by kernel_rfl) ?_ _
 simp only [HT]
 clear hHeld
 have x2 := Gx2.out.below HBwc1.out
 have hw2_ := bt HW.out HBwc1.out
 have j1 := HI3.out
 have j2 := HI4.out
 have e := f_neg (p := x * v) (q := y * u) (Int.mul_ne_zero (by have := HC1.out.1; omega) (by have := HS.out; omega))
 rw [Int.mul_neg, Int.mul_neg] at j1 j2
 rw [e.1] at j1
 rw [e.2] at j2
 clear e
 obtain ⟨f0, f1, f2, f3⟩ := x2.fr
 obtain ⟨r0, r1, r2, r3⟩ := x2.cs
 go_wp2_with fail
 have z2 := x2.stored (.bool n3) (.slice A3 l3.length c3) (.bool n4) (.slice A4 l4.length c4)
 obtain ⟨k0, k1, k2, k3⟩ := z2.cs
 refine bodyPost_ret (v := .tuple #[.agg #[.bool n3, .slice A3 l3.length c3, .bool n4, .slice A4 l4.length c4], .int .i64 0]) (by simp [results, Tryz.results38, go_sem, k0, k1, k2, k3]) rfl ?_
 exact rqe_store hw2_ (by omega) x2 j1 j2
open Go.RowKit Go.Shelf
variable {A : Option Addr} {c : Nat} {l : List Nat} {n : Bool} {w : World} {x y : Int}
theorem Is_iv (h : IV w n A c l x) :
  Calls Tryz.prog 81 #[.agg #[.bool n, .slice A l.length c]] w fun e w' => e = .returned (.bool true) ∧ Below w.heap.size w w' := by
 have e1 := h.len
 have r := Is_any n A l.length c l w rfl (by omega) h.ws
 rwa [h.can] at r
theorem f_pos (hy : 0 < y) : x / ((Nat.gcd x.natAbs y.natAbs : Nat) : Int) = fN x y ∧ y / ((Nat.gcd x.natAbs y.natAbs : Nat) : Int) = fD x y := by
 unfold fN fD
 rw [if_neg (by omega), show ((y.natAbs : Nat) : Int) = y by omega]
 exact ⟨rfl, rfl⟩
theorem f_neg' (hy : y < 0) : -(x / ((Nat.gcd x.natAbs y.natAbs : Nat) : Int)) = fN x y ∧ -(y / ((Nat.gcd x.natAbs y.natAbs : Nat) : Int)) = fD x y := by
 unfold fN fD
 rw [if_pos hy, show ((y.natAbs : Nat) : Int) = -y by omega]
 exact ⟨(Int.neg_ediv_of_dvd (dvd_gl x y)).symm, (Int.neg_ediv_of_dvd (dvd_gr x y)).symm⟩
theorem Make_neg {n m : Bool} {A B : Option Addr} {c d : Nat} {l k : List Nat} (h : IV w n A c l x) (h2 : IV w m B d k y) (hs : y < 0) :
  Calls Tryz.prog 29 #[.agg #[.bool n, .slice A l.length c], .agg #[.bool m, .slice B k.length d]] w (RQE w (fN x y) (fD x y) 0) := by
 have H1 := Hi h
 have H2 := Hi h2
 have HS := Hi hs
 clear h h2 hs
 obtain ⟨W1, hW1, hw1, x0, x1, x2⟩ := hdIIq w n A c l m B d k
 go_enter Tryz.func29, Tryz.ntmps29
 go_wp2_with fail
 rw [← hW1]
 clear hW1
 refine (Is_iv (H1.out.below hw1)).mono ?_
 rintro e wa ⟨rfl, hb⟩
 replace x0 := x0.below hb
 replace x1 := x1.below hb
 replace x2 := x2.below hb
 have hw1_ := bt hw1 hb
 clear hb hw1
 refine g0i1i ?_
 intros
 refine (Is_iv (H2.out.below hw1_)).mono ?_
 rintro e wb ⟨rfl, hb⟩
 replace x0 := x0.below hb
 replace x1 := x1.below hb
 replace x2 := x2.below hb
 have hw2_ := bt hw1_ hb
 clear hb hw1_
 refine g0i1i ?_
 intros
 refine (Sign_iv (H2.out.below hw2_) rfl).mono ?_
 rintro e wd ⟨rfl, hb⟩
 replace x0 := x0.below hb
 replace x1 := x1.below hb
 replace x2 := x2.below hb
 have hw3_ := bt hw2_ hb
 clear hb hw2_
 rw [cmpI_neg HS.out]
 refine g0i1i ?_
 intros
 refine (cancel_iv (H1.out.below hw3_) (H2.out.below hw3_) (.inr (by have := HS.out; omega))).mono ?_
 rintro e we ⟨n1, A1, c1, l1, n2, A2, c2, l2, rfl, i1, i2, hb⟩
 replace x0 := x0.below hb
 replace x1 := x1.below hb
 replace x2 := x2.below hb
 have hw4_ := bt hw3_ hb
 clear hb hw3_
 have HI1 := Hi i1
 have HI2 := Hi i2
 clear i1 i2
 go_wp2_with fail
 have hgp := gcd_pos' (p := x) (q := y) (by have := HS.out; omega)
 have HD : Hid (y / ((Nat.gcd x.natAbs y.natAbs : Nat) : Int) < 0) := Hi (Int.ediv_neg_of_neg_of_pos HS.out (by omega))
 clear hgp
 refine (upright_neg HI1.out HI2.out HD.out).mono ?_
 rintro e wf ⟨n3, A3, c3, l3, n4, A4, c4, l4, rfl, i3, i4, hb⟩
 replace x0 := x0.below hb
 replace x1 := x1.below hb
 replace x2 := x2.below hb
 replace HI1 := Hi (HI1.out.below hb)
 replace HI2 := Hi (HI2.out.below hb)
 have hw5_ := bt hw4_ hb
 clear hb hw4_
 rw [(f_neg' HS.out).1] at i3
 rw [(f_neg' HS.out).2] at i4
 have j1 := Hi i3
 have j2 := Hi i4
 clear i3 i4
 obtain ⟨f0, f1, f2, f3⟩ := x2.fr
 obtain ⟨r0, r1, r2, r3⟩ := x2.cs
 go_wp2_with fail
 have z2 := x2.stored (.bool n3) (.slice A3 l3.length c3) (.bool n4) (.slice A4 l4.length c4)
 obtain ⟨k0, k1, k2, k3⟩ := z2.cs
 refine bodyPost_ret (v := .tuple #[.agg #[.bool n3, .slice A3 l3.length c3, .bool n4, .slice A4 l4.length c4], .int .i64 0]) (by simp [results, Tryz.results29, go_sem, k0, k1, k2, k3]) rfl ?_
 exact rqe_store hw5_ (by omega) x2 j1.out j2.out
end Go.Proofs.YtgljdfblgpdaaaaGreatDoor
