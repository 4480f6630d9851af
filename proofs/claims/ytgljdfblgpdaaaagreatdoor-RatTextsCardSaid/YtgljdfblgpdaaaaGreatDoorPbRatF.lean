import Derived.Test.YtgljdfblgpdaaaaGreatDoorPbRatMac
set_option linter.unusedSimpArgs false
set_option linter.unusedVariables false
set_option maxRecDepth 100000
set_option maxHeartbeats 4000000
namespace Go.Proofs.YtgljdfblgpdaaaaGreatDoor
open Go.RowKit Go.Shelf
variable {A B : Option Addr} {c d : Nat} {k l : List Nat} {m n : Bool} {w : World} {x y : Int}
theorem QSign_iv (h : IV w n A c l x) (h2 : IV w m B d k y) :
  Calls Tryz.prog 40 #[.agg #[.bool n, .slice A l.length c, .bool m, .slice B k.length d]] w fun e w' => e = .returned (.int .i64 (cmpI x 0)) ∧ Below w.heap.size w w' := by
 have H := Hi h
 clear h h2
 go_enter Tryz.func40, Tryz.ntmps40
 go_wp2_with fail
 refine (Sign_iv (H.out.below (ba (b0 _) _)) rfl).mono ?_
 rintro e w1 ⟨rfl, hb⟩
 go_wp2_with fail
 go_ret
 exact ⟨rfl, bt (ba (b0 _) _) hb⟩
theorem QMul_iv (h : IV w n A c l x) (h2 : IV w m B d k y) {n' m' : Bool} {A' B' : Option Addr} {c' d' : Nat} {l' k' : List Nat} {u v : Int} (h3 : IV w n' A' c' l' u) (h4 : IV w m' B' d' k' v) (hc1 : Can x y) (hc2 : Can u v) (hx : Lt 120 x) (hy : Lt 120 y) (hu : Lt 120 u) (hv : Lt 120 v) :
  Calls Tryz.prog 52 #[.agg #[.bool n, .slice A l.length c, .bool m, .slice B k.length d], .agg #[.bool n', .slice A' l'.length c', .bool m', .slice B' k'.length d']] w (RIQ w (fN (x * u) (y * v)) (fD (x * u) (y * v))) := by
 have H1 := Hi h
 have H2 := Hi h2
 have H3 := Hi h3
 have H4 := Hi h4
 have HC1 := Hi hc1
 have HC2 := Hi hc2
 have HL := Hi (And.intro hx (And.intro hy (And.intro hu hv)))
 clear h h2 h3 h4 hc1 hc2 hx hy hu hv
 obtain ⟨W1, hW1, hw1, x0, x1, x2⟩ : ∃ W, W = ((w.alloc (.cells #[.bool n, .slice A l.length c, .bool m, .slice B k.length d] 35)).alloc (.cells #[.bool n', .slice A' l'.length c', .bool m', .slice B' k'.length d'] 35)).alloc (.cells #[.bool false, .slice none 0 0, .bool false, .slice none 0 0] 35) ∧ Below w.heap.size w W ∧ Box4 W w.heap.size (.bool n) (.slice A l.length c) (.bool m) (.slice B k.length d) ∧ Box4 W (w.heap.size + 1) (.bool n') (.slice A' l'.length c') (.bool m') (.slice B' k'.length d') ∧ Box4 W (w.heap.size + 1 + 1) (.bool false) (.slice none 0 0) (.bool false) (.slice none 0 0) := by
  refine ⟨_, rfl, ba (ba (ba (b0 _) _) _) _, ((Box4.new w _ _ _ _).alloc _).alloc _, ?_, ?_⟩
  ·have h := (Box4.new (w.alloc (.cells #[.bool n, .slice A l.length c, .bool m, .slice B k.length d] 35)) (.bool n') (.slice A' l'.length c') (.bool m') (.slice B' k'.length d')).alloc (.cells #[.bool false, .slice none 0 0, .bool false, .slice none 0 0] 35)
   rw [World.size_alloc] at h; exact h
  ·have h := Box4.new ((w.alloc (.cells #[.bool n, .slice A l.length c, .bool m, .slice B k.length d] 35)).alloc (.cells #[.bool n', .slice A' l'.length c', .bool m', .slice B' k'.length d'] 35)) (.bool false) (.slice none 0 0) (.bool false) (.slice none 0 0)
   rw [World.size_alloc, World.size_alloc] at h; exact h
 go_enter Tryz.func52, Tryz.ntmps52
 go_wp2_with fail
 rw [← hW1]
 clear hW1
 refine (cancel_iv (H1.out.below hw1) (H4.out.below hw1) (.inr (by have := HC2.out.1; omega))).mono ?_
 rintro e w2 ⟨n1, A1, c1, l1, n2, A2, c2, l2, rfl, i1, i2, hb⟩
 replace x0 := x0.below hb
 replace x1 := x1.below hb
 replace x2 := x2.below hb
 have hw2 := bt hw1 hb
 clear hb hw1 W1
 go_upto_region 2 with fail
 obtain ⟨w3, hw⟩ : ∃ W, W = (w2.alloc (.cells #[.bool n1, .slice A1 l1.length c1] 24)).alloc (.cells #[.bool n2, .slice A2 l2.length c2] 24) := ⟨_, rfl⟩
 have y1 : Box2 w3 w2.heap.size (.bool n1) (.slice A1 l1.length c1) := by rw [hw]; exact (Box2.new _ _ _).alloc _
 have y2 : Box2 w3 (w2.heap.size + 1) (.bool n2) (.slice A2 l2.length c2) := by
  rw [hw]
  have h := Box2.new (w2.alloc (.cells #[.bool n1, .slice A1 l1.length c1] 24)) (.bool n2) (.slice A2 l2.length c2)
  rwa [World.size_alloc] at h
 have hb : Below w2.heap.size w2 w3 := by rw [hw]; exact ba (ba (b0 _) _) _
 rw [← hw]
 clear hw
 have HI1 := Hi (i1.below hb)
 have HI2 := Hi (i2.below hb)
 have hw3 := bt hw2 hb
 replace x0 := x0.below hb
 replace x1 := x1.below hb
 replace x2 := x2.below hb
 clear hb hw2 i1 i2
 have a2 := x0.cell2
 have a3 := x0.cell3
 obtain ⟨c0, c1'⟩ := x1.cs
 go_wp2_with fail
 refine (cancel_iv (H3.out.below hw3) (H2.out.below hw3) (.inr (by have := HC1.out.1; omega))).mono ?_
 rintro e w4 ⟨n3, A3, c3, l3, n4, A4, c4, l4, rfl, i3, i4, hb⟩
 clear a2 a3 c0 c1'
 replace x0 := x0.below hb
 replace x1 := x1.below hb
 replace x2 := x2.below hb
 replace y1 := y1.below hb
 replace y2 := y2.below hb
 replace HI1 := Hi (HI1.out.below hb)
 replace HI2 := Hi (HI2.out.below hb)
 have hw4 := bt hw3 hb
 clear hb hw3
 go_upto_region 3 with fail
 obtain ⟨w5, hw⟩ : ∃ W, W = (w4.alloc (.cells #[.bool n3, .slice A3 l3.length c3] 24)).alloc (.cells #[.bool n4, .slice A4 l4.length c4] 24) := ⟨_, rfl⟩
 have y3 : Box2 w5 w4.heap.size (.bool n3) (.slice A3 l3.length c3) := by rw [hw]; exact (Box2.new _ _ _).alloc _
 have y4 : Box2 w5 (w4.heap.size + 1) (.bool n4) (.slice A4 l4.length c4) := by
  rw [hw]
  have h := Box2.new (w4.alloc (.cells #[.bool n3, .slice A3 l3.length c3] 24)) (.bool n4) (.slice A4 l4.length c4)
  rwa [World.size_alloc] at h
 have hb : Below w4.heap.size w4 w5 := by rw [hw]; exact ba (ba (b0 _) _) _
 rw [← hw]
 clear hw
 have HI3 := Hi (i3.below hb)
 have HI4 := Hi (i4.below hb)
 have hw5 := bt hw4 hb
 replace x0 := x0.below hb
 replace x1 := x1.below hb
 replace x2 := x2.below hb
 replace y1 := y1.below hb
 replace y2 := y2.below hb
 replace HI1 := Hi (HI1.out.below hb)
 replace HI2 := Hi (HI2.out.below hb)
 clear hb hw4 i3 i4
 go_wp2_with fail
 have HC := (hj y1.hc (hj y2.hc (hj y3.hc y4.hc)))
 have HW := Hi hw5
 have X2 := Hi x2
 have HE := Hi (mul_q HC1.out HC2.out)
 have hxu := lt_mul (lt_ediv (y := ((Nat.gcd x.natAbs v.natAbs : Nat) : Int)) HL.out.1) (lt_ediv (y := ((Nat.gcd u.natAbs y.natAbs : Nat) : Int)) HL.out.2.2.1)
 have hyv := lt_mul (lt_ediv (y := ((Nat.gcd u.natAbs y.natAbs : Nat) : Int)) HL.out.2.1) (lt_ediv (y := ((Nat.gcd x.natAbs v.natAbs : Nat) : Int)) HL.out.2.2.2)
 have HXU := Hi (lt_le hxu (show 240 ≤ 2100 by decide))
 have HYV := Hi (lt_le hyv (show 240 ≤ 2100 by decide))
 clear hxu hyv x0 x1 x2 y1 y2 y3 y4 hw5
 refine rg0 7 HC fun hHeld => ?_
 refine tk 0 ?_
 refine tk 1 ?_
 refine tk 3 ?_
 refine tk 4 ?_
 refine cl 2 fun K hK => ?_
 go_simp
 go_at_call 22
 refine (Mul_iv (HI1.out.below (bw (b0 _))) (HI3.out.below (bw (b0 _))) rfl HXU.out).mono ?_
 rintro e w7 ⟨n7, A7, c7, l7, rfl, i7, hb7'⟩
 have HB7 := Hi (show Below w5.heap.size w5 w7 from bt (bw (b0 _)) hb7')
 have HI7 := Hi i7
 clear hb7' i7 hHeld
 refine rk hK (HC.out _ HB7.out) fun hHeld => ?_
 clear hK K
 refine cl 5 fun K hK => ?_
 go_simp
 go_at_call 22
 refine (Mul_iv (HI4.out.below HB7.out) (HI2.out.below HB7.out) rfl HYV.out).mono ?_
 rintro e w8 ⟨n8, A8, c8, l8, rfl, i8, hb8⟩
 have HB8 := Hi (bt HB7.out hb8)
 have HI8 := Hi i8
 have HJ7 := Hi (HI7.out.below hb8)
 clear hb8 i8 hHeld
 refine rk hK (HC.out _ HB8.out) fun hHeld => ?_
 clear hK K
 refine tk 6 ?_
 refine wpAnyH_done (by kernel_rfl) ?_ _
 simp only [HT]
 have z := X2.out.below HB8.out
 have hw9 := bt HW.out HB8.out
 have f0 := z.free 0
 have f1 := z.free 1
 have f2 := z.free 2
 have f3 := z.free 3
 obtain ⟨r0, r1, r2, r3⟩ := z.cs
 clear hHeld
 go_wp2_with fail
 have z2 := z.stored (.bool n7) (.slice A7 l7.length c7) (.bool n8) (.slice A8 l8.length c8)
 obtain ⟨k0, k1, k2, k3⟩ := z2.cs
 refine bodyPost_ret (v := .agg #[.bool n7, .slice A7 l7.length c7, .bool n8, .slice A8 l8.length c8]) (by simp [results, Tryz.results52, go_sem, k0, k1, k2, k3]) rfl ?_
 have J7 := HJ7.out
 have J8 := HI8.out
 rw [HE.out.1] at J7
 rw [HE.out.2] at J8
 exact riq_store hw9 (by omega) z J7 J8
open Go.RowKit Go.Shelf
variable {A : Option Addr} {c : Nat} {l : List Nat} {n : Bool} {w : World} {x : Int}
theorem QWhole_iv (h : IV w n A c l x) :
  Calls Tryz.prog 33 #[.agg #[.bool n, .slice A l.length c]] w (RIQ w x 1) := by
 have H1 := Hi h
 clear h
 obtain ⟨W1, hW1, hw1, x0, x1⟩ := hdIq w n A c l
 go_enter Tryz.func33, Tryz.ntmps33
 go_wp2_with fail
 rw [← hW1]
 clear hW1
 refine g0i ?_
 intros
 have HC := x0.hc
 have HW := Hi hw1
 have Gx0 := Hi x0
 have Gx1 := Hi x1
 clear x0 x1 hw1
 refine rg0 3 HC fun hHeld => ?_
 refine tk 0 ?_
 refine cl 1 fun K hK => ?_
 go_simp
 go_at_call 77
 refine (Of_iv _ 1 (by omega) (by omega)).mono ?_
 rintro e w2 ⟨n1, A1, c1, l1, rfl, i1, hb⟩
 have HBw2 := Hi (bt (bw (b0 W1)) hb)
 have HI1 := Hi i1
 clear hb i1 hHeld
 refine rk hK (HC.out _ HBw2.out) fun hHeld => ?_
 clear hK K
 refine tk 2 ?_
 refine wpAnyH_done (by kernel_rfl) ?_ _
 simp only [HT]
 clear hHeld
 have x1 := Gx1.out.below HBw2.out
 have hw1_ := bt HW.out HBw2.out
 obtain ⟨f0, f1, f2, f3⟩ := x1.fr
 obtain ⟨r0, r1, r2, r3⟩ := x1.cs
 go_wp2_with fail
 have z2 := x1.stored (.bool n) (.slice A l.length c) (.bool n1) (.slice A1 l1.length c1)
 obtain ⟨k0, k1, k2, k3⟩ := z2.cs
 refine bodyPost_ret (v := .agg #[.bool n, .slice A l.length c, .bool n1, .slice A1 l1.length c1]) (by simp [results, Tryz.results33, go_sem, k0, k1, k2, k3]) rfl ?_
 exact riq_store hw1_ (by omega) x1 (H1.out.below hw1_) HI1.out
theorem QNeg_iv {n m : Bool} {A B : Option Addr} {c d : Nat} {l k : List Nat} {x y : Int} (h : IV w n A c l x) (h2 : IV w m B d k y) :
  Calls Tryz.prog 44 #[.agg #[.bool n, .slice A l.length c, .bool m, .slice B k.length d]] w (RIQ w (-x) y) := by
 have HL := Hi (lt_neg (lt_le (lt_val h.ws h.val) h.len))
 have H1 := Hi h
 have H2 := Hi h2
 clear h h2
 obtain ⟨W1, hW1, hw1, x0, x1⟩ := hdQq w n A c l m B d k
 go_enter Tryz.func44, Tryz.ntmps44
 go_wp2_with fail
 rw [← hW1]
 clear hW1
 refine g0 ?_
 intros
 have HC := x0.hc
 have HW := Hi hw1
 have Gx0 := Hi x0
 have Gx1 := Hi x1
 clear x0 x1 hw1
 refine rg0 6 HC fun hHeld => ?_
 refine tk 0 ?_
 refine tk 1 ?_
 refine tk 3 ?_
 refine tk 4 ?_
 refine cl 2 fun K hK => ?_
 go_simp
 go_at_call 82
 refine (Neg_iv (H1.out.below (bt HW.out (bw (b0 _)))) rfl HL.out).mono ?_
 rintro e w2 ⟨n1, A1, c1, l1, rfl, i1, hb⟩
 have HBw2 := Hi (bt (bw (b0 W1)) hb)
 have HI1 := Hi i1
 clear hb i1 hHeld
 refine rk hK (HC.out _ HBw2.out) fun hHeld => ?_
 clear hK K
 refine tk 5 ?_
 refine wpAnyH_done (by kernel_rfl) ?_ _
 simp only [HT]
 clear hHeld
 have x1 := Gx1.out.below HBw2.out
 have hw1_ := bt HW.out HBw2.out
 obtain ⟨f0, f1, f2, f3⟩ := x1.fr
 obtain ⟨r0, r1, r2, r3⟩ := x1.cs
 go_wp2_with fail
 have z2 := x1.stored (.bool n1) (.slice A1 l1.length c1) (.bool m) (.slice B k.length d)
 obtain ⟨k0, k1, k2, k3⟩ := z2.cs
 refine bodyPost_ret (v := .agg #[.bool n1, .slice A1 l1.length c1, .bool m, .slice B k.length d]) (by simp [results, Tryz.results44, go_sem, k0, k1, k2, k3]) rfl ?_
 exact riq_store hw1_ (by omega) x1 HI1.out (H2.out.below hw1_)
open Go.RowKit Go.Shelf
variable {A A' B B' : Option Addr} {c c' d d' : Nat} {k k' l l' : List Nat} {m m' n n' : Bool} {u v x y : Int} {w : World}
theorem cmpI_neg (h : y < 0) : cmpI y 0 = -1 := by unfold cmpI; rw [if_pos h]
theorem cmpI_pos (h : 0 < y) : cmpI y 0 = 1 := by unfold cmpI; rw [if_neg (by omega), if_neg (by omega)]
theorem upright_neg (h : IV w n A c l x) (h2 : IV w m B d k y) (hs : y < 0) :
  Calls Tryz.prog 104 #[.agg #[.bool n, .slice A l.length c], .agg #[.bool m, .slice B k.length d]] w (RIQ w (-x) (-y)) := by
 have HL1 := Hi (lt_neg (lt_le (lt_val h.ws h.val) h.len))
 have HL2 := Hi (lt_neg (lt_le (lt_val h2.ws h2.val) h2.len))
 have H1 := Hi h
 have H2 := Hi h2
 have HS := Hi hs
 clear h h2 hs
 obtain ⟨W1, hW1, hw1, x0, x1, x2⟩ := hdIIq w n A c l m B d k
 go_enter Tryz.func104, Tryz.ntmps104
 go_wp2_with fail
 rw [← hW1]
 clear hW1
 refine (Sign_iv (H2.out.below hw1) rfl).mono ?_
 rintro e w1 ⟨rfl, hb⟩
 replace x0 := x0.below hb
 replace x1 := x1.below hb
 replace x2 := x2.below hb
 have hw1_ := bt hw1 hb
 clear hb hw1
 obtain ⟨C00, C01⟩ := x0.cs
 obtain ⟨C10, C11⟩ := x1.cs
 rw [show cmpI y 0 = -1 from cmpI_neg HS.out]
 go_wp2_with fail
 have HC := (hj x0.hc x1.hc)
 have HW := Hi hw1_
 have Gx0 := Hi x0
 have Gx1 := Hi x1
 have Gx2 := Hi x2
 clear x0 x1 x2 hw1_
 refine rg0 5 HC fun hHeld => ?_
 refine tk 0 ?_
 refine tk 2 ?_
 refine cl 1 fun K hK => ?_
 go_simp
 go_at_call 82
 refine (Neg_iv (H1.out.below (bt HW.out (bw (b0 _)))) rfl HL1.out).mono ?_
 rintro e w2 ⟨n1, A1, c1, l1, rfl, i1, hb⟩
 have HBw2 := Hi (bt (bw (b0 w1)) hb)
 have HI1 := Hi i1
 clear hb i1 hHeld
 refine rk hK (HC.out _ HBw2.out) fun hHeld => ?_
 clear hK K
 refine cl 3 fun K hK => ?_
 go_simp
 go_at_call 82
 refine (Neg_iv (H2.out.below (bt HW.out HBw2.out)) rfl HL2.out).mono ?_
 rintro e w3 ⟨n2, A2, c2, l2, rfl, i2, hb⟩
 have HBw3 := Hi (bt HBw2.out hb)
 have HI2 := Hi i2
 have HJ1 := Hi (HI1.out.below hb)
 clear hb i2 hHeld
 refine rk hK (HC.out _ HBw3.out) fun hHeld => ?_
 clear hK K
 refine tk 4 ?_
 refine wpAnyH_done (by kernel_rfl) ?_ _
 simp only [HT]
 clear hHeld
 have x2 := Gx2.out.below HBw3.out
 have hw2_ := bt HW.out HBw3.out
 obtain ⟨f0, f1, f2, f3⟩ := x2.fr
 obtain ⟨r0, r1, r2, r3⟩ := x2.cs
 go_wp2_with fail
 have z2 := x2.stored (.bool n1) (.slice A1 l1.length c1) (.bool n2) (.slice A2 l2.length c2)
 obtain ⟨k0, k1, k2, k3⟩ := z2.cs
 refine bodyPost_ret (v := .agg #[.bool n1, .slice A1 l1.length c1, .bool n2, .slice A2 l2.length c2]) (by simp [results, Tryz.results104, go_sem, k0, k1, k2, k3]) rfl ?_
 exact riq_store hw2_ (by omega) x2 HJ1.out HI2.out
theorem QFloor_iv (h : IV w n A c l x) (h2 : IV w m B d k y) (hy : y ≠ 0) :
  Calls Tryz.prog 46 #[.agg #[.bool n, .slice A l.length c, .bool m, .slice B k.length d]] w (RIV w (x / y)) := by
 have H1 := Hi h
 have H2 := Hi h2
 have HY := Hi hy
 clear h h2 hy
 obtain ⟨W1, hW1, hw1, x0, x1⟩ := hdQi w n A c l m B d k
 go_enter Tryz.func46, Tryz.ntmps46
 go_wp2_with fail
 rw [← hW1]
 clear hW1
 refine (over_iv (H1.out.below hw1) (H2.out.below hw1) HY.out).mono ?_
 rintro e w1 ⟨n1, A1, c1, l1, rfl, i1, hb⟩
 replace x0 := x0.below hb
 replace x1 := x1.below hb
 have hw1_ := bt hw1 hb
 clear hb hw1
 have f0 := x1.free 0
 have f1 := x1.free 1
 obtain ⟨r0, r1⟩ := x1.cs
 obtain ⟨k0, k1, k2⟩ := x1.back (.bool n1) (.slice A1 l1.length c1)
 have HI := Hi i1
 clear i1
 go_wp2_with fail
 refine bodyPost_ret (v := .agg #[.bool n1, .slice A1 l1.length c1]) (by simp [results, Tryz.results46, go_sem, k0, k2]) rfl ?_
 exact riv_store hw1_ (by omega) x1 HI.out
theorem QCmp_11 (h : IV w n A c l x) (h2 : IV w m B d k y) (h3 : IV w n' A' c' l' u) (h4 : IV w m' B' d' k' v) (hx : Lt 120 x) (hy : Lt 120 y) (hu : Lt 120 u) (hv : Lt 120 v) (ho : y = 1 ∧ v = 1) :
  Calls Tryz.prog 42 #[.agg #[.bool n, .slice A l.length c, .bool m, .slice B k.length d], .agg #[.bool n', .slice A' l'.length c', .bool m', .slice B' k'.length d']] w fun e w' => e = .returned (.int .i64 (cmpI (x * v) (u * y))) ∧ Below w.heap.size w w' := by
 have H1 := Hi h
 have H2 := Hi h2
 have H3 := Hi h3
 have H4 := Hi h4
 have HL1 := Hi (lt_le (lt_mul hx hv) (show 240 ≤ 2100 by decide))
 have HL2 := Hi (lt_le (lt_mul hu hy) (show 240 ≤ 2100 by decide))
 have HO := Hi ho
 clear h h2 h3 h4 hx hy hu hv ho
 obtain ⟨W1, hW1, hw1, x0, x1⟩ := hdQQ w n A c l m B d k n' A' c' l' m' B' d' k'
 go_enter Tryz.func42, Tryz.ntmps42
 go_wp2_with fail
 rw [← hW1]
 clear hW1
 refine (isOne_iv (H2.out.below hw1)).mono ?_
 rintro e w1 ⟨rfl, hb⟩
 replace x0 := x0.below hb
 replace x1 := x1.below hb
 have hw1_ := bt hw1 hb
 clear hb hw1
 rw [show decide (y = 1) = true from decide_eq_true HO.out.1]
 refine g01 ?_
 intros
 refine (isOne_iv (H4.out.below hw1_)).mono ?_
 rintro e w2 ⟨rfl, hb⟩
 replace x0 := x0.below hb
 replace x1 := x1.below hb
 have hw2_ := bt hw1_ hb
 clear hb hw1_
 rw [show decide (v = 1) = true from decide_eq_true HO.out.2]
 refine g01 ?_
 intros
 refine (Cmp_iv (H1.out.below hw2_) (H3.out.below hw2_) rfl).mono ?_
 rintro e w3 ⟨rfl, hb⟩
 replace x0 := x0.below hb
 replace x1 := x1.below hb
 have hw3_ := bt hw2_ hb
 clear hb hw2_
 go_wp2_with fail
 go_ret
 exact ⟨by rw [HO.out.1, HO.out.2, Int.mul_one, Int.mul_one]; rfl, hw3_⟩
theorem QCmp_10 (h : IV w n A c l x) (h2 : IV w m B d k y) (h3 : IV w n' A' c' l' u) (h4 : IV w m' B' d' k' v) (hx : Lt 120 x) (hy : Lt 120 y) (hu : Lt 120 u) (hv : Lt 120 v) (ho : y = 1 ∧ v ≠ 1) :
  Calls Tryz.prog 42 #[.agg #[.bool n, .slice A l.length c, .bool m, .slice B k.length d], .agg #[.bool n', .slice A' l'.length c', .bool m', .slice B' k'.length d']] w fun e w' => e = .returned (.int .i64 (cmpI (x * v) (u * y))) ∧ Below w.heap.size w w' := by
 have H1 := Hi h
 have H2 := Hi h2
 have H3 := Hi h3
 have H4 := Hi h4
 have HL1 := Hi (lt_le (lt_mul hx hv) (show 240 ≤ 2100 by decide))
 have HL2 := Hi (lt_le (lt_mul hu hy) (show 240 ≤ 2100 by decide))
 have HO := Hi ho
 clear h h2 h3 h4 hx hy hu hv ho
 obtain ⟨W1, hW1, hw1, x0, x1⟩ := hdQQ w n A c l m B d k n' A' c' l' m' B' d' k'
 go_enter Tryz.func42, Tryz.ntmps42
 go_wp2_with fail
 rw [← hW1]
 clear hW1
 refine (isOne_iv (H2.out.below hw1)).mono ?_
 rintro e w1 ⟨rfl, hb⟩
 replace x0 := x0.below hb
 replace x1 := x1.below hb
 have hw1_ := bt hw1 hb
 clear hb hw1
 rw [show decide (y = 1) = true from decide_eq_true HO.out.1]
 refine g01 ?_
 intros
 refine (isOne_iv (H4.out.below hw1_)).mono ?_
 rintro e w2 ⟨rfl, hb⟩
 replace x0 := x0.below hb
 replace x1 := x1.below hb
 have hw2_ := bt hw1_ hb
 clear hb hw1_
 rw [show decide (v = 1) = false from decide_eq_false HO.out.2]
 refine g01 ?_
 intros
 have HC := (hj x0.hc x1.hc)
 have HW := Hi hw2_
 have Gx0 := Hi x0
 have Gx1 := Hi x1
 clear x0 x1 hw2_
 refine rg0 11 HC fun hHeld => ?_
 refine tk 0 ?_
 refine tk 1 ?_
 refine tk 2 ?_
 refine tk 3 ?_
 refine tk 5 ?_
 refine tk 6 ?_
 refine tk 7 ?_
 refine tk 8 ?_
 refine cl 4 fun K hK => ?_
 go_simp
 go_at_call 22
 refine (Mul_iv (H1.out.below (bt HW.out (bw (b0 _)))) (H4.out.below (bt HW.out (bw (b0 _)))) rfl HL1.out).mono ?_
 rintro e w5 ⟨n1, A1, c1, l1, rfl, i1, hb⟩
 have HBw5 := Hi (bt (bw (b0 w2)) hb)
 have HI1 := Hi i1
 clear hb i1 hHeld
 refine rk hK (HC.out _ HBw5.out) fun hHeld => ?_
 clear hK K
 refine cl 9 fun K hK => ?_
 go_simp
 go_at_call 22
 refine (Mul_iv (H3.out.below (bt HW.out HBw5.out)) (H2.out.below (bt HW.out HBw5.out)) rfl HL2.out).mono ?_
 rintro e w6 ⟨n2, A2, c2, l2, rfl, i2, hb⟩
 have HBw6 := Hi (bt HBw5.out hb)
 have HI2 := Hi i2
 have HJ1 := Hi (HI1.out.below hb)
 clear hb i2 hHeld
 refine rk hK (HC.out _ HBw6.out) fun hHeld => ?_
 clear hK K
 refine cl 10 fun K hK => ?_
 go_simp
 go_at_call 80
 refine (Cmp_iv HJ1.out HI2.out rfl).mono ?_
 rintro e w7 ⟨rfl, hb⟩
 have HBw7 := Hi (bt HBw6.out hb)
 clear hb  hHeld
 refine rk hK (HC.out _ HBw7.out) fun hHeld => ?_
 clear hK K
 refine wpAnyH_done (by kernel_rfl) ?_ _
 simp only [HT]
 clear hHeld
 have hw3_ := bt HW.out HBw7.out
 go_wp2_with fail
 go_ret
 exact ⟨rfl, hw3_⟩
theorem QCmp_0 (h : IV w n A c l x) (h2 : IV w m B d k y) (h3 : IV w n' A' c' l' u) (h4 : IV w m' B' d' k' v) (hx : Lt 120 x) (hy : Lt 120 y) (hu : Lt 120 u) (hv : Lt 120 v) (ho : y ≠ 1) :
  Calls Tryz.prog 42 #[.agg #[.bool n, .slice A l.length c, .bool m, .slice B k.length d], .agg #[.bool n', .slice A' l'.length c', .bool m', .slice B' k'.length d']] w fun e w' => e = .returned (.int .i64 (cmpI (x * v) (u * y))) ∧ Below w.heap.size w w' := by
 have H1 := Hi h
 have H2 := Hi h2
 have H3 := Hi h3
 have H4 := Hi h4
 have HL1 := Hi (lt_le (lt_mul hx hv) (show 240 ≤ 2100 by decide))
 have HL2 := Hi (lt_le (lt_mul hu hy) (show 240 ≤ 2100 by decide))
 have HO := Hi ho
 clear h h2 h3 h4 hx hy hu hv ho
 obtain ⟨W1, hW1, hw1, x0, x1⟩ := hdQQ w n A c l m B d k n' A' c' l' m' B' d' k'
 go_enter Tryz.func42, Tryz.ntmps42
 go_wp2_with fail
 rw [← hW1]
 clear hW1
 refine (isOne_iv (H2.out.below hw1)).mono ?_
 rintro e w1 ⟨rfl, hb⟩
 replace x0 := x0.below hb
 replace x1 := x1.below hb
 have hw1_ := bt hw1 hb
 clear hb hw1
 rw [show decide (y = 1) = false from decide_eq_false HO.out]
 refine g01 ?_
 intros
 have HC := (hj x0.hc x1.hc)
 have HW := Hi hw1_
 have Gx0 := Hi x0
 have Gx1 := Hi x1
 clear x0 x1 hw1_
 refine rg0 11 HC fun hHeld => ?_
 refine tk 0 ?_
 refine tk 1 ?_
 refine tk 2 ?_
 refine tk 3 ?_
 refine tk 5 ?_
 refine tk 6 ?_
 refine tk 7 ?_
 refine tk 8 ?_
 refine cl 4 fun K hK => ?_
 go_simp
 go_at_call 22
 refine (Mul_iv (H1.out.below (bt HW.out (bw (b0 _)))) (H4.out.below (bt HW.out (bw (b0 _)))) rfl HL1.out).mono ?_
 rintro e w5 ⟨n1, A1, c1, l1, rfl, i1, hb⟩
 have HBw5 := Hi (bt (bw (b0 w1)) hb)
 have HI1 := Hi i1
 clear hb i1 hHeld
 refine rk hK (HC.out _ HBw5.out) fun hHeld => ?_
 clear hK K
 refine cl 9 fun K hK => ?_
 go_simp
 go_at_call 22
 refine (Mul_iv (H3.out.below (bt HW.out HBw5.out)) (H2.out.below (bt HW.out HBw5.out)) rfl HL2.out).mono ?_
 rintro e w6 ⟨n2, A2, c2, l2, rfl, i2, hb⟩
 have HBw6 := Hi (bt HBw5.out hb)
 have HI2 := Hi i2
 have HJ1 := Hi (HI1.out.below hb)
 clear hb i2 hHeld
 refine rk hK (HC.out _ HBw6.out) fun hHeld => ?_
 clear hK K
 refine cl 10 fun K hK => ?_
 go_simp
 go_at_call 80
 refine (Cmp_iv HJ1.out HI2.out rfl).mono ?_
 rintro e w7 ⟨rfl, hb⟩
 have HBw7 := Hi (bt HBw6.out hb)
 clear hb  hHeld
 refine rk hK (HC.out _ HBw7.out) fun hHeld => ?_
 clear hK K
 refine wpAnyH_done (by kernel_rfl) ?_ _
 simp only [HT]
 clear hHeld
 have hw2_ := bt HW.out HBw7.out
 go_wp2_with fail
 go_ret
 exact ⟨rfl, hw2_⟩
end Go.Proofs.YtgljdfblgpdaaaaGreatDoor
