import Derived.Test.YtgljdfblgpdaaaaGreatDoorPbSanA
import Derived.Test.YtgljdfblgpdaaaaGreatDoorMkRatMk
import Derived.Test.YtgljdfblgpdaaaaGreatDoorMkSimE
set_option linter.unusedSimpArgs false
set_option linter.unusedVariables false
set_option maxRecDepth 100000
set_option maxHeartbeats 4000000
namespace Go.Proofs.YtgljdfblgpdaaaaGreatDoor
open Go.RowKit Go.Shelf
variable {A A0 A1 A2 B B0 : Option Addr} {c c0 c1 c2 d d0 : Nat} {i0 j0 : Int} {k k0 l l0 l1 l2 : List Nat} {m m0 n n0 n1 n2 p : Bool} {w : World}
theorem RIs_v (hl : WS w A l) (hn : l.length ≤ 30) (hp : isB n l = p) :
  Calls Tryz.prog 31 #[.agg #[.bool n, .slice A l.length c]] w fun e w' => e = .returned (.bool p) ∧ Below w.heap.size w w' := by
 rw [← hp]; exact RIs_any n A l.length c l w rfl (by omega) hl
theorem QIs_v (h : WS w A l) (h2 : WS w B k) (hc : l.length ≤ c ∧ k.length ≤ d) (hn : l.length ≤ 30 ∧ k.length ≤ 30) (hp : isQ n l m k = p) :
  Calls Tryz.prog 35 #[.agg #[.bool n, .slice A l.length c, .bool m, .slice B k.length d]] w fun e w' => e = .returned (.bool p) ∧ Below w.heap.size w w' := by
 rw [← hp]; exact QIs_any h h2 hc.1 hc.2 (by omega) (by omega)
theorem RQIs_v (h : WS w A l) (h2 : WS w B k) (hc : l.length ≤ c ∧ k.length ≤ d) (hn : l.length ≤ 30 ∧ k.length ≤ 30) (hp : isQ n l m k = p) :
  Calls Tryz.prog 36 #[.agg #[.bool n, .slice A l.length c, .bool m, .slice B k.length d]] w fun e w' => e = .returned (.bool p) ∧ Below w.heap.size w w' := by
 rw [← hp]; exact RQIs_any h h2 hc.1 hc.2 (by omega) (by omega)
theorem mb27be {P : Prop} (h : P := by
 refine ⟨_, rfl, ba (ba (ba (b0 _) _) _) _, ?_, ?_, ?_⟩
 ·have h := Box4.new w (.bool n0) (.slice A0 l0.length c0) (.bool m0) (.slice B0 k0.length d0)
  exact ((h.alloc _).alloc _)
 ·have h := Box2.new (w.alloc (.cells #[.bool n0, .slice A0 l0.length c0, .bool m0, .slice B0 k0.length d0] 35)) (.bool n1) (.slice A1 l1.length c1)
  rw [World.size_alloc] at h
  exact (h.alloc _)
 ·have h := Box2.new ((w.alloc (.cells #[.bool n0, .slice A0 l0.length c0, .bool m0, .slice B0 k0.length d0] 35)).alloc (.cells #[.bool n1, .slice A1 l1.length c1] 24)) (.bool n2) (.slice A2 l2.length c2)
  rw [World.size_alloc, World.size_alloc] at h
  exact h) : P := h
theorem m5d45d {P : Prop} (h : P := by
 obtain ⟨W1, hW1, hw1, x0, x1, x2⟩ : ∃ W, W = ((w.alloc (.cells #[.bool n0, .slice A0 l0.length c0, .bool m0, .slice B0 k0.length d0] 35)).alloc (.cells #[.bool n1, .slice A1 l1.length c1] 24)).alloc (.cells #[.bool n2, .slice A2 l2.length c2] 24) ∧ Below w.heap.size w W ∧ Box4 W (w.heap.size) (.bool n0) (.slice A0 l0.length c0) (.bool m0) (.slice B0 k0.length d0) ∧ Box2 W (w.heap.size + 1) (.bool n1) (.slice A1 l1.length c1) ∧ Box2 W (w.heap.size + 1 + 1) (.bool n2) (.slice A2 l2.length c2) := by
  exact mb27be
 go_enter Tryz.func4, Tryz.ntmps4
 go_wp2_with fail
 rw [← hW1]
 clear hW1
 have c_x0_0 := x0.cell0
 have c_x0_1 := x0.cell1
 have c_x0_2 := x0.cell2
 have c_x0_3 := x0.cell3
 have c_x1_0 := x1.cell0
 have c_x1_1 := x1.cell1
 have c_x2_0 := x2.cell0
 have c_x2_1 := x2.cell1
 go_wp2_with fail
 refine (sane2 _ (HTn.out.below hw1)).mono ?_
 rintro e wz ⟨rfl, hb⟩
 clear c_x0_0 c_x0_1 c_x0_2 c_x0_3 c_x1_0 c_x1_1 c_x2_0 c_x2_1
 replace x0 := x0.below hb
 replace x1 := x1.below hb
 replace x2 := x2.below hb
 have hw1_ := bt hw1 hb
 clear hb hw1
 go_wp2_with fail
 go_ret
 exact ⟨rfl, hw1_⟩) : P := h
theorem RatMakes_n0 (hT : Tens w)  (h0 : ¬ l0.length ≤ 30) :
  Calls Tryz.prog 4 #[.agg #[.bool n0, .slice A0 l0.length c0, .bool m0, .slice B0 k0.length d0], .agg #[.bool n1, .slice A1 l1.length c1], .agg #[.bool n2, .slice A2 l2.length c2], .int .i64 i0, .int .i64 j0] w fun e w' => e = .returned (.bool true) ∧ Below w.heap.size w w' := by
 have HTn := Hi hT
 clear hT
 have hg0 : (30 : Int) < (l0.length : Int) := by omega
 exact m5d45d
theorem RatMakes_n1 (hT : Tens w) (h0 : l0.length ≤ 30) (h1 : ¬ k0.length ≤ 30) :
  Calls Tryz.prog 4 #[.agg #[.bool n0, .slice A0 l0.length c0, .bool m0, .slice B0 k0.length d0], .agg #[.bool n1, .slice A1 l1.length c1], .agg #[.bool n2, .slice A2 l2.length c2], .int .i64 i0, .int .i64 j0] w fun e w' => e = .returned (.bool true) ∧ Below w.heap.size w w' := by
 have HTn := Hi hT
 clear hT
 have hg0 : ¬ (30 : Int) < (l0.length : Int) := by omega
 have hg1 : (30 : Int) < (k0.length : Int) := by omega
 exact m5d45d
theorem RatMakes_n2 (hT : Tens w) (h0 : l0.length ≤ 30) (h1 : k0.length ≤ 30) (h2 : ¬ l1.length ≤ 30) :
  Calls Tryz.prog 4 #[.agg #[.bool n0, .slice A0 l0.length c0, .bool m0, .slice B0 k0.length d0], .agg #[.bool n1, .slice A1 l1.length c1], .agg #[.bool n2, .slice A2 l2.length c2], .int .i64 i0, .int .i64 j0] w fun e w' => e = .returned (.bool true) ∧ Below w.heap.size w w' := by
 have HTn := Hi hT
 clear hT
 have hg0 : ¬ (30 : Int) < (l0.length : Int) := by omega
 have hg1 : ¬ (30 : Int) < (k0.length : Int) := by omega
 have hg2 : (30 : Int) < (l1.length : Int) := by omega
 exact m5d45d
theorem RatMakes_n3 (hT : Tens w) (h0 : l0.length ≤ 30) (h1 : k0.length ≤ 30) (h2 : l1.length ≤ 30) (h3 : ¬ l2.length ≤ 30) :
  Calls Tryz.prog 4 #[.agg #[.bool n0, .slice A0 l0.length c0, .bool m0, .slice B0 k0.length d0], .agg #[.bool n1, .slice A1 l1.length c1], .agg #[.bool n2, .slice A2 l2.length c2], .int .i64 i0, .int .i64 j0] w fun e w' => e = .returned (.bool true) ∧ Below w.heap.size w w' := by
 have HTn := Hi hT
 clear hT
 have hg0 : ¬ (30 : Int) < (l0.length : Int) := by omega
 have hg1 : ¬ (30 : Int) < (k0.length : Int) := by omega
 have hg2 : ¬ (30 : Int) < (l1.length : Int) := by omega
 have hg3 : (30 : Int) < (l2.length : Int) := by omega
 exact m5d45d
theorem RatMakes_m (hT : Tens w) (s0 : WS w A0 l0) (s1 : WS w B0 k0) (s2 : WS w A1 l1) (s3 : WS w A2 l2) (hc0 : l0.length ≤ c0) (hc1 : k0.length ≤ d0) (hc2 : l1.length ≤ c1) (hc3 : l2.length ≤ c2) (hi : -9223372036854775808 ≤ i0 ∧ i0 ≤ 9223372036854775807) (hj : -9223372036854775808 ≤ j0 ∧ j0 ≤ 9223372036854775807) (h0 : l0.length ≤ 30) (h1 : k0.length ≤ 30) (h2 : l1.length ≤ 30) (h3 : l2.length ≤ 30) :
  Calls Tryz.prog 4 #[.agg #[.bool n0, .slice A0 l0.length c0, .bool m0, .slice B0 k0.length d0], .agg #[.bool n1, .slice A1 l1.length c1], .agg #[.bool n2, .slice A2 l2.length c2], .int .i64 i0, .int .i64 j0] w fun e w' => e = .returned (.bool true) ∧ Below w.heap.size w w' := by
 have HTn := Hi hT
 have hg0 : ¬ (30 : Int) < (l0.length : Int) := by omega
 have hg1 : ¬ (30 : Int) < (k0.length : Int) := by omega
 have hg2 : ¬ (30 : Int) < (l1.length : Int) := by omega
 have hg3 : ¬ (30 : Int) < (l2.length : Int) := by omega
 obtain ⟨xo, yo, eo, ho1, ho2⟩ := ofs_any hi hj
 obtain ⟨xm, ym, em, hm1, hm2⟩ := makes_any (n := n1) (m := n2) s2 s3 hc2 hc3 (by omega) (by omega)
 have HO1 := Hi ho1
 have HO2 := Hi ho2
 have HM1 := Hi hm1
 have HM2 := Hi hm2
 have Js0 := Hi s0
 have Js1 := Hi s1
 have Js2 := Hi s2
 have HC := Hi (show (l0.length ≤ c0 ∧ k0.length ≤ d0) ∧ (l0.length ≤ 30 ∧ k0.length ≤ 30) from ⟨⟨hc0, hc1⟩, ⟨h0, h1⟩⟩)
 have HC1 := Hi (show l1.length ≤ c1 ∧ l1.length ≤ 30 from ⟨hc2, h2⟩)
 clear hT ho1 ho2 hm1 hm2 s0 s1 s2 s3 hc0 hc1 hc2 hc3 h0 h1 h2 h3 hi hj
 obtain ⟨W1, hW1, hw1, x0, x1, x2⟩ : ∃ W, W = ((w.alloc (.cells #[.bool n0, .slice A0 l0.length c0, .bool m0, .slice B0 k0.length d0] 35)).alloc (.cells #[.bool n1, .slice A1 l1.length c1] 24)).alloc (.cells #[.bool n2, .slice A2 l2.length c2] 24) ∧ Below w.heap.size w W ∧ Box4 W (w.heap.size) (.bool n0) (.slice A0 l0.length c0) (.bool m0) (.slice B0 k0.length d0) ∧ Box2 W (w.heap.size + 1) (.bool n1) (.slice A1 l1.length c1) ∧ Box2 W (w.heap.size + 1 + 1) (.bool n2) (.slice A2 l2.length c2) := by
  exact mb27be
 go_enter Tryz.func4, Tryz.ntmps4
 go_wp2_with fail
 rw [← hW1]
 clear hW1
 have c_x0_0 := x0.cell0
 have c_x0_1 := x0.cell1
 have c_x0_2 := x0.cell2
 have c_x0_3 := x0.cell3
 have c_x1_0 := x1.cell0
 have c_x1_1 := x1.cell1
 have c_x2_0 := x2.cell0
 have c_x2_1 := x2.cell1
 go_wp2_with fail
 clear hg0 hg1 hg2 hg3
 refine (HO1.out W1).mono ?_
 rintro e w2 ⟨n5, A5, c5, l5, m5, B5, d5, k5, rfl, i5, j5, hb⟩
 clear c_x0_0 c_x0_1 c_x0_2 c_x0_3 c_x1_0 c_x1_1 c_x2_0 c_x2_1
 replace x0 := x0.below hb
 replace x1 := x1.below hb
 replace x2 := x2.below hb
 have hw1_ := bt hw1 hb
 clear hb hw1
 have JI5 := Hi i5
 clear i5
 have JJ5 := Hi j5
 clear j5
 have x0a := x0.alloc (.cells #[.bool n5, .slice A5 l5.length c5, .bool m5, .slice B5 k5.length d5] 35)
 obtain ⟨c_x0_0, c_x0_1, c_x0_2, c_x0_3⟩ := x0a.cs
 have x1a := x1.alloc (.cells #[.bool n5, .slice A5 l5.length c5, .bool m5, .slice B5 k5.length d5] 35)
 obtain ⟨c_x1_0, c_x1_1⟩ := x1a.cs
 have x2a := x2.alloc (.cells #[.bool n5, .slice A5 l5.length c5, .bool m5, .slice B5 k5.length d5] 35)
 obtain ⟨c_x2_0, c_x2_1⟩ := x2a.cs
 go_wp2_with fail
 clear c_x0_0 c_x0_1 c_x0_2 c_x0_3 x0a c_x1_0 c_x1_1 x1a c_x2_0 c_x2_1 x2a
 obtain ⟨w3, hw⟩ : ∃ W, W = w2.alloc (.cells #[.bool n5, .slice A5 l5.length c5, .bool m5, .slice B5 k5.length d5] 35) := ⟨_, rfl⟩
 have xb : Box4 w3 w2.heap.size (.bool n5) (.slice A5 l5.length c5) (.bool m5) (.slice B5 k5.length d5) := by rw [hw]; exact Box4.new _ _ _ _ _
 have hb : Below w2.heap.size w2 w3 := by rw [hw]; exact ba (b0 _) _
 obtain ⟨xbp, hxbp⟩ : ∃ p, p = w2.heap.size := ⟨_, rfl⟩
 rw [← hxbp] at xb ⊢
 rw [← hw]
 clear hw hxbp
 replace x0 := x0.below hb
 replace x1 := x1.below hb
 replace x2 := x2.below hb
 replace JI5 := Hi (JI5.out.below hb)
 replace JJ5 := Hi (JJ5.out.below hb)
 have hw2_ := bt hw1_ hb
 clear hb hw1_
 refine (HO2.out w3).mono ?_
 rintro e w4 ⟨n6, A6, c6, l6, m6, B6, d6, k6, rfl, i6, j6, hb⟩
 replace x0 := x0.below hb
 replace x1 := x1.below hb
 replace x2 := x2.below hb
 replace xb := xb.below hb
 replace JI5 := Hi (JI5.out.below hb)
 replace JJ5 := Hi (JJ5.out.below hb)
 have hw3_ := bt hw2_ hb
 clear hb hw2_
 have JI6 := Hi i6
 clear i6
 have JJ6 := Hi j6
 clear j6
 have x0a := x0.alloc (.cells #[.bool n6, .slice A6 l6.length c6, .bool m6, .slice B6 k6.length d6] 35)
 obtain ⟨c_x0_0, c_x0_1, c_x0_2, c_x0_3⟩ := x0a.cs
 have x1a := x1.alloc (.cells #[.bool n6, .slice A6 l6.length c6, .bool m6, .slice B6 k6.length d6] 35)
 obtain ⟨c_x1_0, c_x1_1⟩ := x1a.cs
 have x2a := x2.alloc (.cells #[.bool n6, .slice A6 l6.length c6, .bool m6, .slice B6 k6.length d6] 35)
 obtain ⟨c_x2_0, c_x2_1⟩ := x2a.cs
 have xba := xb.alloc (.cells #[.bool n6, .slice A6 l6.length c6, .bool m6, .slice B6 k6.length d6] 35)
 obtain ⟨c_xb_0, c_xb_1, c_xb_2, c_xb_3⟩ := xba.cs
 go_wp2_with fail
 clear c_x0_0 c_x0_1 c_x0_2 c_x0_3 x0a c_x1_0 c_x1_1 x1a c_x2_0 c_x2_1 x2a c_xb_0 c_xb_1 c_xb_2 c_xb_3 xba
 obtain ⟨w5, hw⟩ : ∃ W, W = w4.alloc (.cells #[.bool n6, .slice A6 l6.length c6, .bool m6, .slice B6 k6.length d6] 35) := ⟨_, rfl⟩
 have xc : Box4 w5 w4.heap.size (.bool n6) (.slice A6 l6.length c6) (.bool m6) (.slice B6 k6.length d6) := by rw [hw]; exact Box4.new _ _ _ _ _
 have hb : Below w4.heap.size w4 w5 := by rw [hw]; exact ba (b0 _) _
 obtain ⟨xcp, hxcp⟩ : ∃ p, p = w4.heap.size := ⟨_, rfl⟩
 rw [← hxcp] at xc ⊢
 rw [← hw]
 clear hw hxcp
 replace x0 := x0.below hb
 replace x1 := x1.below hb
 replace x2 := x2.below hb
 replace xb := xb.below hb
 replace JI5 := Hi (JI5.out.below hb)
 replace JJ5 := Hi (JJ5.out.below hb)
 replace JI6 := Hi (JI6.out.below hb)
 replace JJ6 := Hi (JJ6.out.below hb)
 have hw4_ := bt hw3_ hb
 clear hb hw3_
 refine (HM1.out w5 hw4_).mono ?_
 rintro e w6 ⟨n7, A7, c7, l7, m7, B7, d7, k7, rfl, i7, j7, hb⟩
 replace x0 := x0.below hb
 replace x1 := x1.below hb
 replace x2 := x2.below hb
 replace xb := xb.below hb
 replace xc := xc.below hb
 replace JI5 := Hi (JI5.out.below hb)
 replace JJ5 := Hi (JJ5.out.below hb)
 replace JI6 := Hi (JI6.out.below hb)
 replace JJ6 := Hi (JJ6.out.below hb)
 have hw5_ := bt hw4_ hb
 clear hb hw4_
 have JI7 := Hi i7
 clear i7
 have JJ7 := Hi j7
 clear j7
 have x0a := x0.alloc (.cells #[.bool n7, .slice A7 l7.length c7, .bool m7, .slice B7 k7.length d7] 35)
 obtain ⟨c_x0_0, c_x0_1, c_x0_2, c_x0_3⟩ := x0a.cs
 have x1a := x1.alloc (.cells #[.bool n7, .slice A7 l7.length c7, .bool m7, .slice B7 k7.length d7] 35)
 obtain ⟨c_x1_0, c_x1_1⟩ := x1a.cs
 have x2a := x2.alloc (.cells #[.bool n7, .slice A7 l7.length c7, .bool m7, .slice B7 k7.length d7] 35)
 obtain ⟨c_x2_0, c_x2_1⟩ := x2a.cs
 have xba := xb.alloc (.cells #[.bool n7, .slice A7 l7.length c7, .bool m7, .slice B7 k7.length d7] 35)
 obtain ⟨c_xb_0, c_xb_1, c_xb_2, c_xb_3⟩ := xba.cs
 have xca := xc.alloc (.cells #[.bool n7, .slice A7 l7.length c7, .bool m7, .slice B7 k7.length d7] 35)
 obtain ⟨c_xc_0, c_xc_1, c_xc_2, c_xc_3⟩ := xca.cs
 go_wp2_with fail
 clear c_x0_0 c_x0_1 c_x0_2 c_x0_3 x0a c_x1_0 c_x1_1 x1a c_x2_0 c_x2_1 x2a c_xb_0 c_xb_1 c_xb_2 c_xb_3 xba c_xc_0 c_xc_1 c_xc_2 c_xc_3 xca
 obtain ⟨w7, hw⟩ : ∃ W, W = w6.alloc (.cells #[.bool n7, .slice A7 l7.length c7, .bool m7, .slice B7 k7.length d7] 35) := ⟨_, rfl⟩
 have xd : Box4 w7 w6.heap.size (.bool n7) (.slice A7 l7.length c7) (.bool m7) (.slice B7 k7.length d7) := by rw [hw]; exact Box4.new _ _ _ _ _
 have hb : Below w6.heap.size w6 w7 := by rw [hw]; exact ba (b0 _) _
 obtain ⟨xdp, hxdp⟩ : ∃ p, p = w6.heap.size := ⟨_, rfl⟩
 rw [← hxdp] at xd ⊢
 rw [← hw]
 clear hw hxdp
 replace x0 := x0.below hb
 replace x1 := x1.below hb
 replace x2 := x2.below hb
 replace xb := xb.below hb
 replace xc := xc.below hb
 replace JI5 := Hi (JI5.out.below hb)
 replace JJ5 := Hi (JJ5.out.below hb)
 replace JI6 := Hi (JI6.out.below hb)
 replace JJ6 := Hi (JJ6.out.below hb)
 replace JI7 := Hi (JI7.out.below hb)
 replace JJ7 := Hi (JJ7.out.below hb)
 have hw6_ := bt hw5_ hb
 clear hb hw5_
 refine (HM2.out w7 hw6_).mono ?_
 rintro e w8 ⟨n8, A8, c8, l8, m8, B8, d8, k8, rfl, i8, j8, hb⟩
 replace x0 := x0.below hb
 replace x1 := x1.below hb
 replace x2 := x2.below hb
 replace xb := xb.below hb
 replace xc := xc.below hb
 replace xd := xd.below hb
 replace JI5 := Hi (JI5.out.below hb)
 replace JJ5 := Hi (JJ5.out.below hb)
 replace JI6 := Hi (JI6.out.below hb)
 replace JJ6 := Hi (JJ6.out.below hb)
 replace JI7 := Hi (JI7.out.below hb)
 replace JJ7 := Hi (JJ7.out.below hb)
 have hw7_ := bt hw6_ hb
 clear hb hw6_
 have JI8 := Hi i8
 clear i8
 have JJ8 := Hi j8
 clear j8
 have x0a := x0.alloc (.cells #[.bool n8, .slice A8 l8.length c8, .bool m8, .slice B8 k8.length d8] 35)
 obtain ⟨c_x0_0, c_x0_1, c_x0_2, c_x0_3⟩ := x0a.cs
 have x1a := x1.alloc (.cells #[.bool n8, .slice A8 l8.length c8, .bool m8, .slice B8 k8.length d8] 35)
 obtain ⟨c_x1_0, c_x1_1⟩ := x1a.cs
 have x2a := x2.alloc (.cells #[.bool n8, .slice A8 l8.length c8, .bool m8, .slice B8 k8.length d8] 35)
 obtain ⟨c_x2_0, c_x2_1⟩ := x2a.cs
 have xba := xb.alloc (.cells #[.bool n8, .slice A8 l8.length c8, .bool m8, .slice B8 k8.length d8] 35)
 obtain ⟨c_xb_0, c_xb_1, c_xb_2, c_xb_3⟩ := xba.cs
 have xca := xc.alloc (.cells #[.bool n8, .slice A8 l8.length c8, .bool m8, .slice B8 k8.length d8] 35)
 obtain ⟨c_xc_0, c_xc_1, c_xc_2, c_xc_3⟩ := xca.cs
 have xda := xd.alloc (.cells #[.bool n8, .slice A8 l8.length c8, .bool m8, .slice B8 k8.length d8] 35)
 obtain ⟨c_xd_0, c_xd_1, c_xd_2, c_xd_3⟩ := xda.cs
 go_wp2_with fail
 clear c_x0_0 c_x0_1 c_x0_2 c_x0_3 x0a c_x1_0 c_x1_1 x1a c_x2_0 c_x2_1 x2a c_xb_0 c_xb_1 c_xb_2 c_xb_3 xba c_xc_0 c_xc_1 c_xc_2 c_xc_3 xca c_xd_0 c_xd_1 c_xd_2 c_xd_3 xda
 obtain ⟨w9, hw⟩ : ∃ W, W = w8.alloc (.cells #[.bool n8, .slice A8 l8.length c8, .bool m8, .slice B8 k8.length d8] 35) := ⟨_, rfl⟩
 have xe : Box4 w9 w8.heap.size (.bool n8) (.slice A8 l8.length c8) (.bool m8) (.slice B8 k8.length d8) := by rw [hw]; exact Box4.new _ _ _ _ _
 have hb : Below w8.heap.size w8 w9 := by rw [hw]; exact ba (b0 _) _
 obtain ⟨xep, hxep⟩ : ∃ p, p = w8.heap.size := ⟨_, rfl⟩
 rw [← hxep] at xe ⊢
 rw [← hw]
 clear hw hxep
 replace x0 := x0.below hb
 replace x1 := x1.below hb
 replace x2 := x2.below hb
 replace xb := xb.below hb
 replace xc := xc.below hb
 replace xd := xd.below hb
 replace JI5 := Hi (JI5.out.below hb)
 replace JJ5 := Hi (JJ5.out.below hb)
 replace JI6 := Hi (JI6.out.below hb)
 replace JJ6 := Hi (JJ6.out.below hb)
 replace JI7 := Hi (JI7.out.below hb)
 replace JJ7 := Hi (JJ7.out.below hb)
 replace JI8 := Hi (JI8.out.below hb)
 replace JJ8 := Hi (JJ8.out.below hb)
 have hw8_ := bt hw7_ hb
 clear hb hw7_
 go_cut [77] (fun v wx => v = .bool false ∧ Below w9.heap.size w9 wx)
 case first =>
  as_aux_lemma =>
  have HC := x1.hc
  have HW := Hi hw8_
  have Gx0 := Hi x0
  have Gx1 := Hi x1
  have Gx2 := Hi x2
  have Gxb := Hi xb
  have Gxc := Hi xc
  have Gxd := Hi xd
  have Gxe := Hi xe
  clear x0 x1 x2 xb xc xd xe hw8_
  obtain ⟨bz, hbz⟩ : ∃ v, v = isB n1 l1 := ⟨_, rfl⟩
  have HBZ := Hi hbz
  have Jiz : Hid (bz = true → IV w n1 A1 c1 l1 (zI n1 l1)) := Hi (fun h => ⟨HC1.out.1, Js2.out, by rw [← HBZ.out]; exact h, rfl, by have := HC1.out.2; omega⟩)
  clear hbz
  rcases Bool.eq_false_or_eq_true bz with h | h <;> subst h
  rotate_left
  ·refine rgh HC fun hHeld => ?_
   obtain ⟨wd, hwd⟩ : ∃ W, W = w9.drew := ⟨_, rfl⟩
   have HBd : Hid (Below w9.heap.size w9 wd) := Hi (by rw [hwd]; exact bw (b0 _))
   rw [← hwd] at hHeld ⊢
   clear hwd
   refine tk 0 ?_
   refine cl 1 fun K hK => ?_
   go_simp
   go_at_call 31
   refine (RIs_v (Js2.out.below (bt HW.out HBd.out)) HC1.out.2 HBZ.out.symm).mono ?_
   rintro e y11 ⟨rfl, hb⟩
   have HBy11 := Hi (bt HBd.out hb)
   clear hb  hHeld
   refine rk hK (HC.out _ HBy11.out) fun hHeld => ?_
   clear hK K
   refine tk 2 ?_
   refine tu 3 ?_
   refine tu 4 ?_
   refine tu 5 ?_
   refine tu 6 ?_
   refine tu 7 ?_
   refine tu 8 ?_
   refine tk 9 ?_
   refine wpAnyH_done (by kernel_rfl) ?_ _
   clear hHeld
   go_wp2_with fail
   go_meet
   exact ⟨rfl, HBy11.out⟩
  ·refine rgh HC fun hHeld => ?_
   obtain ⟨wd, hwd⟩ : ∃ W, W = w9.drew := ⟨_, rfl⟩
   have HBd : Hid (Below w9.heap.size w9 wd) := Hi (by rw [hwd]; exact bw (b0 _))
   rw [← hwd] at hHeld ⊢
   clear hwd
   refine tk 0 ?_
   refine cl 1 fun K hK => ?_
   go_simp
   go_at_call 31
   refine (RIs_v (Js2.out.below (bt HW.out HBd.out)) HC1.out.2 HBZ.out.symm).mono ?_
   rintro e y12 ⟨rfl, hb⟩
   have HBy12 := Hi (bt HBd.out hb)
   clear hb  hHeld
   refine rk hK (HC.out _ HBy12.out) fun hHeld => ?_
   clear hK K
   refine tk 2 ?_
   refine tk 3 ?_
   refine tk 5 ?_
   refine cl 4 fun K hK => ?_
   go_simp
   go_at_call 33
   refine (QWhole_iv ((Jiz.out rfl).below (bt HW.out HBy12.out))).mono ?_
   rintro e y13 ⟨n9, A9, c9, l9, m9, B9, d9, k9, rfl, i9, j9, hb⟩
   have HBy13 := Hi (bt HBy12.out hb)
   have JI9 := Hi i9
   have JJ9 := Hi j9
   clear hb i9 j9 hHeld
   refine rk hK (HC.out _ HBy13.out) fun hHeld => ?_
   clear hK K
   refine cl 6 fun K hK => ?_
   go_simp
   go_at_call 34
   refine (RQWhole_iv ((Jiz.out rfl).below (bt HW.out HBy13.out))).mono ?_
   rintro e y14 ⟨n10, A10, c10, l10, m10, B10, d10, k10, rfl, i10, j10, hb⟩
   replace JI9 := Hi (JI9.out.below hb)
   replace JJ9 := Hi (JJ9.out.below hb)
   have HBy14 := Hi (bt HBy13.out hb)
   have JI10 := Hi i10
   have JJ10 := Hi j10
   clear hb i10 j10 hHeld
   refine rk hK (HC.out _ HBy14.out) fun hHeld => ?_
   clear hK K
   refine cl 7 fun K hK => ?_
   go_simp
   go_at_call 32
   refine (RQSame_iv JI9.out JJ9.out JI10.out JJ10.out).mono ?_
   rintro e y15 ⟨rfl, hb⟩
   replace JI9 := Hi (JI9.out.below hb)
   replace JJ9 := Hi (JJ9.out.below hb)
   replace JI10 := Hi (JI10.out.below hb)
   replace JJ10 := Hi (JJ10.out.below hb)
   have HBy15 := Hi (bt HBy14.out hb)
   clear hb  hHeld
   refine rk hK (HC.out _ HBy15.out) fun hHeld => ?_
   clear hK K
   refine tk 8 ?_
   refine tk 9 ?_
   refine wpAnyH_done (by kernel_rfl) ?_ _
   clear hHeld
   go_wp2_with fail
   go_meet
   exact ⟨rfl, HBy15.out⟩
 case rest =>
 obtain ⟨rfl, hb⟩ := hcut
 obtain ⟨w10, hwn⟩ : ∃ v, v = wc := ⟨_, rfl⟩
 rw [← hwn] at hb ⊢
 clear hwn wc
 replace x0 := x0.below hb
 replace x1 := x1.below hb
 replace x2 := x2.below hb
 replace xb := xb.below hb
 replace xc := xc.below hb
 replace xd := xd.below hb
 replace xe := xe.below hb
 replace JI5 := Hi (JI5.out.below hb)
 replace JJ5 := Hi (JJ5.out.below hb)
 replace JI6 := Hi (JI6.out.below hb)
 replace JJ6 := Hi (JJ6.out.below hb)
 replace JI7 := Hi (JI7.out.below hb)
 replace JJ7 := Hi (JJ7.out.below hb)
 replace JI8 := Hi (JI8.out.below hb)
 replace JJ8 := Hi (JJ8.out.below hb)
 have hw9_ := bt hw8_ hb
 clear hb hw8_
 go_wp2_with fail
 have Jtens := HTn
 have HCC := HC
 clear HC
 go_cut [10] (fun v wx => v = .bool true ∧ Below w10.heap.size w10 wx)
 case first =>
  as_aux_lemma =>
  have HC := (Go.Proofs.YtgljdfblgpdaaaaGreatDoor.hj x0.hc (Go.Proofs.YtgljdfblgpdaaaaGreatDoor.hj xb.hc (Go.Proofs.YtgljdfblgpdaaaaGreatDoor.hj xc.hc (Go.Proofs.YtgljdfblgpdaaaaGreatDoor.hj xd.hc xe.hc))))
  have HW := Hi hw9_
  have Gx0 := Hi x0
  have Gx1 := Hi x1
  have Gx2 := Hi x2
  have Gxb := Hi xb
  have Gxc := Hi xc
  have Gxd := Hi xd
  have Gxe := Hi xe
  clear x0 x1 x2 xb xc xd xe hw9_
  obtain ⟨bq, hbq⟩ : ∃ v, v = isQ n0 l0 m0 k0 := ⟨_, rfl⟩
  have HBQ := Hi hbq
  clear hbq
  rcases Bool.eq_false_or_eq_true bq with h | h <;> subst h
  ·refine rgh HC fun hHeld => ?_
   obtain ⟨wd, hwd⟩ : ∃ W, W = w10.drew := ⟨_, rfl⟩
   have HBd : Hid (Below w10.heap.size w10 wd) := Hi (by rw [hwd]; exact bw (b0 _))
   rw [← hwd] at hHeld ⊢
   clear hwd
   refine cl 0 fun K hK => ?_
   go_simp
   go_at_call 26
   refine (sane2 _ (Jtens.out.below (bt HW.out HBd.out))).mono ?_
   rintro e y17 ⟨rfl, hb⟩
   have HBy17 := Hi (bt HBd.out hb)
   clear hb  hHeld
   refine rk hK (HC.out _ HBy17.out) fun hHeld => ?_
   clear hK K
   refine tk 1 ?_
   refine tk 2 ?_
   refine tk 4 ?_
   refine cl 3 fun K hK => ?_
   go_simp
   go_at_call 35
   refine (QIs_v (Js0.out.below (bt HW.out HBy17.out)) (Js1.out.below (bt HW.out HBy17.out)) HCC.out.1 HCC.out.2 HBQ.out.symm).mono ?_
   rintro e y18 ⟨rfl, hb⟩
   have HBy18 := Hi (bt HBy17.out hb)
   clear hb  hHeld
   refine rk hK (HC.out _ HBy18.out) fun hHeld => ?_
   clear hK K
   refine cl 5 fun K hK => ?_
   go_simp
   go_at_call 36
   refine (RQIs_v (Js0.out.below (bt HW.out HBy18.out)) (Js1.out.below (bt HW.out HBy18.out)) HCC.out.1 HCC.out.2 HBQ.out.symm).mono ?_
   rintro e y19 ⟨rfl, hb⟩
   have HBy19 := Hi (bt HBy18.out hb)
   clear hb  hHeld
   refine rk hK (HC.out _ HBy19.out) fun hHeld => ?_
   clear hK K
   refine tk 6 ?_
   refine tk 7 ?_
   refine tk 8 ?_
   refine tk 9 ?_
   refine tk 10 ?_
   refine cl 11 fun K hK => ?_
   go_simp
   go_at_call 32
   refine (RQSame_iv (JI5.out.below HBy19.out) (JJ5.out.below HBy19.out) (JI6.out.below HBy19.out) (JJ6.out.below HBy19.out)).mono ?_
   rintro e y20 ⟨rfl, hb⟩
   have HBy20 := Hi (bt HBy19.out hb)
   clear hb  hHeld
   refine rk hK (HC.out _ HBy20.out) fun hHeld => ?_
   clear hK K
   refine tk 12 ?_
   refine tk 13 ?_
   refine tk 14 ?_
   refine tk 15 ?_
   refine tk 16 ?_
   refine tk 17 ?_
   refine tk 18 ?_
   refine tk 19 ?_
   refine tk 20 ?_
   refine cl 21 fun K hK => ?_
   go_simp
   go_at_call 32
   refine (RQSame_iv (JI7.out.below HBy20.out) (JJ7.out.below HBy20.out) (JI8.out.below HBy20.out) (JJ8.out.below HBy20.out)).mono ?_
   rintro e y21 ⟨rfl, hb⟩
   have HBy21 := Hi (bt HBy20.out hb)
   clear hb  hHeld
   refine rk hK (HC.out _ HBy21.out) fun hHeld => ?_
   clear hK K
   refine tk 22 ?_
   refine tk 23 ?_
   refine tk 24 ?_
   refine tk 25 ?_
   refine tk 26 ?_
   refine tk 27 ?_
   refine tk 28 ?_
   refine wpAnyH_done (by kernel_rfl) ?_ _
   clear hHeld
   go_wp2_with fail
   go_meet
   exact ⟨rfl, HBy21.out⟩
  ·refine rgh HC fun hHeld => ?_
   obtain ⟨wd, hwd⟩ : ∃ W, W = w10.drew := ⟨_, rfl⟩
   have HBd : Hid (Below w10.heap.size w10 wd) := Hi (by rw [hwd]; exact bw (b0 _))
   rw [← hwd] at hHeld ⊢
   clear hwd
   refine cl 0 fun K hK => ?_
   go_simp
   go_at_call 26
   refine (sane2 _ (Jtens.out.below (bt HW.out HBd.out))).mono ?_
   rintro e y22 ⟨rfl, hb⟩
   have HBy22 := Hi (bt HBd.out hb)
   clear hb  hHeld
   refine rk hK (HC.out _ HBy22.out) fun hHeld => ?_
   clear hK K
   refine tk 1 ?_
   refine tk 2 ?_
   refine tk 4 ?_
   refine cl 3 fun K hK => ?_
   go_simp
   go_at_call 35
   refine (QIs_v (Js0.out.below (bt HW.out HBy22.out)) (Js1.out.below (bt HW.out HBy22.out)) HCC.out.1 HCC.out.2 HBQ.out.symm).mono ?_
   rintro e y23 ⟨rfl, hb⟩
   have HBy23 := Hi (bt HBy22.out hb)
   clear hb  hHeld
   refine rk hK (HC.out _ HBy23.out) fun hHeld => ?_
   clear hK K
   refine cl 5 fun K hK => ?_
   go_simp
   go_at_call 36
   refine (RQIs_v (Js0.out.below (bt HW.out HBy23.out)) (Js1.out.below (bt HW.out HBy23.out)) HCC.out.1 HCC.out.2 HBQ.out.symm).mono ?_
   rintro e y24 ⟨rfl, hb⟩
   have HBy24 := Hi (bt HBy23.out hb)
   clear hb  hHeld
   refine rk hK (HC.out _ HBy24.out) fun hHeld => ?_
   clear hK K
   refine tk 6 ?_
   refine tk 7 ?_
   refine tk 8 ?_
   refine tk 9 ?_
   refine tk 10 ?_
   refine cl 11 fun K hK => ?_
   go_simp
   go_at_call 32
   refine (RQSame_iv (JI5.out.below HBy24.out) (JJ5.out.below HBy24.out) (JI6.out.below HBy24.out) (JJ6.out.below HBy24.out)).mono ?_
   rintro e y25 ⟨rfl, hb⟩
   have HBy25 := Hi (bt HBy24.out hb)
   clear hb  hHeld
   refine rk hK (HC.out _ HBy25.out) fun hHeld => ?_
   clear hK K
   refine tk 12 ?_
   refine tk 13 ?_
   refine tk 14 ?_
   refine tk 15 ?_
   refine tk 16 ?_
   refine tk 17 ?_
   refine tk 18 ?_
   refine tk 19 ?_
   refine tk 20 ?_
   refine cl 21 fun K hK => ?_
   go_simp
   go_at_call 32
   refine (RQSame_iv (JI7.out.below HBy25.out) (JJ7.out.below HBy25.out) (JI8.out.below HBy25.out) (JJ8.out.below HBy25.out)).mono ?_
   rintro e y26 ⟨rfl, hb⟩
   have HBy26 := Hi (bt HBy25.out hb)
   clear hb  hHeld
   refine rk hK (HC.out _ HBy26.out) fun hHeld => ?_
   clear hK K
   refine tk 22 ?_
   refine tk 23 ?_
   refine tk 24 ?_
   refine tk 25 ?_
   refine tk 26 ?_
   refine tk 27 ?_
   refine tk 28 ?_
   refine wpAnyH_done (by kernel_rfl) ?_ _
   clear hHeld
   go_wp2_with fail
   go_meet
   exact ⟨rfl, HBy26.out⟩
 case rest =>
 obtain ⟨rfl, hb⟩ := hcut
 obtain ⟨w16, hwn⟩ : ∃ v, v = wc := ⟨_, rfl⟩
 rw [← hwn] at hb ⊢
 clear hwn wc
 replace x0 := x0.below hb
 replace x1 := x1.below hb
 replace x2 := x2.below hb
 replace xb := xb.below hb
 replace xc := xc.below hb
 replace xd := xd.below hb
 replace xe := xe.below hb
 replace JI5 := Hi (JI5.out.below hb)
 replace JJ5 := Hi (JJ5.out.below hb)
 replace JI6 := Hi (JI6.out.below hb)
 replace JJ6 := Hi (JJ6.out.below hb)
 replace JI7 := Hi (JI7.out.below hb)
 replace JJ7 := Hi (JJ7.out.below hb)
 replace JI8 := Hi (JI8.out.below hb)
 replace JJ8 := Hi (JJ8.out.below hb)
 have hw10_ := bt hw9_ hb
 clear hb hw9_
 go_wp2_with fail
 go_ret
 exact ⟨rfl, hw10_⟩
theorem RatMakes_walk (w : World) (s0 : WS w A0 l0) (s1 : WS w B0 k0) (s2 : WS w A1 l1) (s3 : WS w A2 l2) (hc0 : l0.length ≤ c0) (hc1 : k0.length ≤ d0) (hc2 : l1.length ≤ c1) (hc3 : l2.length ≤ c2) (hi : -9223372036854775808 ≤ i0 ∧ i0 ≤ 9223372036854775807) (hj : -9223372036854775808 ≤ j0 ∧ j0 ≤ 9223372036854775807) (hT : Tens w) :
  Calls Tryz.prog 4 #[.agg #[.bool n0, .slice A0 l0.length c0, .bool m0, .slice B0 k0.length d0], .agg #[.bool n1, .slice A1 l1.length c1], .agg #[.bool n2, .slice A2 l2.length c2], .int .i64 i0, .int .i64 j0] w fun e w' => e = .returned (.bool true) ∧ Below w.heap.size w w' := by
 by_cases h0 : l0.length ≤ 30
 ·by_cases h1 : k0.length ≤ 30
  ·by_cases h2 : l1.length ≤ 30
   ·by_cases h3 : l2.length ≤ 30
    ·exact RatMakes_m hT s0 s1 s2 s3 hc0 hc1 hc2 hc3 hi hj h0 h1 h2 h3
    ·exact RatMakes_n3 hT h0 h1 h2 h3
   ·exact RatMakes_n2 hT h0 h1 h2
  ·exact RatMakes_n1 hT h0 h1
 ·exact RatMakes_n0 hT h0
end Go.Proofs.YtgljdfblgpdaaaaGreatDoor
