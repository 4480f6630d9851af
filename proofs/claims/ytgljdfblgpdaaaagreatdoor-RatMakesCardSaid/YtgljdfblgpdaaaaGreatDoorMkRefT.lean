import Derived.Test.YtgljdfblgpdaaaaGreatDoorMkRefS
set_option linter.unusedSimpArgs false
set_option linter.unusedVariables false
set_option maxRecDepth 100000
set_option maxHeartbeats 4000000
namespace Go.Proofs.YtgljdfblgpdaaaaGreatDoor
open Go.RowKit Go.Shelf
theorem RQOf_zero (w : World) (i j : Int) (hi : -9223372036854775808 ≤ i ∧ i ≤ 9223372036854775807) (hj : -9223372036854775808 ≤ j ∧ j ≤ 9223372036854775807) (hs : j = 0) :
  Calls Tryz.prog 28 #[.int .i64 i, .int .i64 j] w (RQE w 0 0 5) := by
 have HI := Hi hi
 have HJ := Hi hj
 have HS := Hi hs
 clear hi hj hs
 obtain ⟨W1, hW1, hw1, x0⟩ := hdq w
 go_enter Tryz.func28, Tryz.ntmps28
 go_wp2_with fail
 rw [← hW1]
 clear hW1
 go_wp2_with fail
 refine (ROf_iv W1 i HI.out.1 HI.out.2).mono ?_
 rintro e w1 ⟨n1, A1, c1, l1, rfl, i1, hb⟩
 replace x0 := x0.below hb
 have hw1_ := bt hw1 hb
 clear hb hw1
 have HI1 := Hi i1
 clear i1
 go_wp2_with fail
 refine (ROf_iv w1 j HJ.out.1 HJ.out.2).mono ?_
 rintro e w2 ⟨n2, A2, c2, l2, rfl, i2, hb⟩
 replace x0 := x0.below hb
 replace HI1 := Hi (HI1.out.below hb)
 have hw2_ := bt hw1_ hb
 clear hb hw1_
 have HI2 := Hi i2
 clear i2
 go_wp2_with fail
 refine (RMake_zero HI1.out HI2.out HS.out).mono ?_
 rintro e w3 ⟨n3, A3, c3, l3, n4, A4, c4, l4, rfl, i3, i4, hb⟩
 replace x0 := x0.below hb
 replace HI1 := Hi (HI1.out.below hb)
 replace HI2 := Hi (HI2.out.below hb)
 have hw3_ := bt hw2_ hb
 clear hb hw2_
 have HI3 := Hi i3
 have HI4 := Hi i4
 clear i3 i4
 obtain ⟨f0, f1, f2, f3⟩ := x0.fr
 obtain ⟨r0, r1, r2, r3⟩ := x0.cs
 go_wp2_with fail
 have z2 := x0.stored (.bool n3) (.slice A3 l3.length c3) (.bool n4) (.slice A4 l4.length c4)
 obtain ⟨k0, k1, k2, k3⟩ := z2.cs
 refine bodyPost_ret (v := .tuple #[.agg #[.bool n3, .slice A3 l3.length c3, .bool n4, .slice A4 l4.length c4], .int .i64 5]) (by simp [results, Tryz.results28, go_sem, k0, k1, k2, k3]) rfl ?_
 exact rqe_store hw3_ (by omega) x0 HI3.out HI4.out
theorem QOf_pos (w : World) (i j : Int) (hi : -9223372036854775808 ≤ i ∧ i ≤ 9223372036854775807) (hj : -9223372036854775808 ≤ j ∧ j ≤ 9223372036854775807) (hs : 0 < j) :
  Calls Tryz.prog 27 #[.int .i64 i, .int .i64 j] w (RQE w (fN i j) (fD i j) 0) := by
 have HI := Hi hi
 have HJ := Hi hj
 have HS := Hi hs
 clear hi hj hs
 obtain ⟨W1, hW1, hw1, x0⟩ := hdq w
 go_enter Tryz.func27, Tryz.ntmps27
 go_wp2_with fail
 rw [← hW1]
 clear hW1
 go_wp2_with fail
 refine (Of64_iv W1 i HI.out.1 HI.out.2).mono ?_
 rintro e w1 ⟨n1, A1, c1, l1, rfl, i1, hb⟩
 replace x0 := x0.below hb
 have hw1_ := bt hw1 hb
 clear hb hw1
 have HI1 := Hi i1
 clear i1
 go_wp2_with fail
 refine (Of64_iv w1 j HJ.out.1 HJ.out.2).mono ?_
 rintro e w2 ⟨n2, A2, c2, l2, rfl, i2, hb⟩
 replace x0 := x0.below hb
 replace HI1 := Hi (HI1.out.below hb)
 have hw2_ := bt hw1_ hb
 clear hb hw1_
 have HI2 := Hi i2
 clear i2
 go_wp2_with fail
 refine (Make_pos HI1.out HI2.out HS.out).mono ?_
 rintro e w3 ⟨n3, A3, c3, l3, n4, A4, c4, l4, rfl, i3, i4, hb⟩
 replace x0 := x0.below hb
 replace HI1 := Hi (HI1.out.below hb)
 replace HI2 := Hi (HI2.out.below hb)
 have hw3_ := bt hw2_ hb
 clear hb hw2_
 have HI3 := Hi i3
 have HI4 := Hi i4
 clear i3 i4
 obtain ⟨f0, f1, f2, f3⟩ := x0.fr
 obtain ⟨r0, r1, r2, r3⟩ := x0.cs
 go_wp2_with fail
 have z2 := x0.stored (.bool n3) (.slice A3 l3.length c3) (.bool n4) (.slice A4 l4.length c4)
 obtain ⟨k0, k1, k2, k3⟩ := z2.cs
 refine bodyPost_ret (v := .tuple #[.agg #[.bool n3, .slice A3 l3.length c3, .bool n4, .slice A4 l4.length c4], .int .i64 0]) (by simp [results, Tryz.results27, go_sem, k0, k1, k2, k3]) rfl ?_
 exact rqe_store hw3_ (by omega) x0 HI3.out HI4.out
theorem QOf_zero (w : World) (i j : Int) (hi : -9223372036854775808 ≤ i ∧ i ≤ 9223372036854775807) (hj : -9223372036854775808 ≤ j ∧ j ≤ 9223372036854775807) (hs : j = 0) :
  Calls Tryz.prog 27 #[.int .i64 i, .int .i64 j] w (RQE w 0 0 5) := by
 have HI := Hi hi
 have HJ := Hi hj
 have HS := Hi hs
 clear hi hj hs
 obtain ⟨W1, hW1, hw1, x0⟩ := hdq w
 go_enter Tryz.func27, Tryz.ntmps27
 go_wp2_with fail
 rw [← hW1]
 clear hW1
 go_wp2_with fail
 refine (Of64_iv W1 i HI.out.1 HI.out.2).mono ?_
 rintro e w1 ⟨n1, A1, c1, l1, rfl, i1, hb⟩
 replace x0 := x0.below hb
 have hw1_ := bt hw1 hb
 clear hb hw1
 have HI1 := Hi i1
 clear i1
 go_wp2_with fail
 refine (Of64_iv w1 j HJ.out.1 HJ.out.2).mono ?_
 rintro e w2 ⟨n2, A2, c2, l2, rfl, i2, hb⟩
 replace x0 := x0.below hb
 replace HI1 := Hi (HI1.out.below hb)
 have hw2_ := bt hw1_ hb
 clear hb hw1_
 have HI2 := Hi i2
 clear i2
 go_wp2_with fail
 refine (Make_zero HI1.out HI2.out HS.out).mono ?_
 rintro e w3 ⟨n3, A3, c3, l3, n4, A4, c4, l4, rfl, i3, i4, hb⟩
 replace x0 := x0.below hb
 replace HI1 := Hi (HI1.out.below hb)
 replace HI2 := Hi (HI2.out.below hb)
 have hw3_ := bt hw2_ hb
 clear hb hw2_
 have HI3 := Hi i3
 have HI4 := Hi i4
 clear i3 i4
 obtain ⟨f0, f1, f2, f3⟩ := x0.fr
 obtain ⟨r0, r1, r2, r3⟩ := x0.cs
 go_wp2_with fail
 have z2 := x0.stored (.bool n3) (.slice A3 l3.length c3) (.bool n4) (.slice A4 l4.length c4)
 obtain ⟨k0, k1, k2, k3⟩ := z2.cs
 refine bodyPost_ret (v := .tuple #[.agg #[.bool n3, .slice A3 l3.length c3, .bool n4, .slice A4 l4.length c4], .int .i64 5]) (by simp [results, Tryz.results27, go_sem, k0, k1, k2, k3]) rfl ?_
 exact rqe_store hw3_ (by omega) x0 HI3.out HI4.out
end Go.Proofs.YtgljdfblgpdaaaaGreatDoor
