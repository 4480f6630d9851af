import Derived.Test.YtgljdfblgpdaaaaGreatDoorSiRefS
set_option linter.unusedSimpArgs false
set_option linter.unusedVariables false
set_option maxRecDepth 100000
set_option maxHeartbeats 4000000
namespace Go.Proofs.YtgljdfblgpdaaaaGreatDoor
open Go.RowKit Go.Shelf
theorem RQIs_iv {w : World} {n m : Bool} {A B : Option Addr} {c d : Nat} {l k : List Nat} {x y : Int} (h : IV w n A c l x) (h2 : IV w m B d k y) (hc : Can x y) :
  Calls Tryz.prog 36 #[.agg #[.bool n, .slice A l.length c, .bool m, .slice B k.length d]] w fun e w' => e = .returned (.bool true) ∧ Below w.heap.size w w' := by
 have H1 := Hi h
 have H2 := Hi h2
 have HC := Hi hc
 have HG : Hid (((Nat.gcd x.natAbs y.natAbs : Nat) : Int) = 1) := Hi (by rw [hc.2]; rfl)
 have HL1 : Hid (Lt 300 1) := Hi (lt_le (lt_one (by decide)) (by decide))
 clear h h2 hc
 obtain ⟨W1, hW1, hw1, x0⟩ := hdQ w n A c l m B d k
 go_enter Tryz.func36, Tryz.ntmps36
 go_wp2_with fail
 rw [← hW1]
 clear hW1
 refine (RIs_iv (H1.out.below hw1)).mono ?_
 rintro e wa ⟨rfl, hb⟩
 replace x0 := x0.below hb
 have hw1_ := bt hw1 hb
 clear hb hw1
 refine g0 ?_
 intros
 refine (RIs_iv (H2.out.below hw1_)).mono ?_
 rintro e wb ⟨rfl, hb⟩
 replace x0 := x0.below hb
 have hw2_ := bt hw1_ hb
 clear hb hw1_
 refine g0 ?_
 intros
 refine (RSign_iv (H2.out.below hw2_) rfl).mono ?_
 rintro e wc1 ⟨rfl, hb⟩
 replace x0 := x0.below hb
 have hw3_ := bt hw2_ hb
 clear hb hw2_
 rw [cmpI_pos HC.out.1]
 refine g0 ?_
 intros
 refine (RGcd_iv (H1.out.below hw3_) (H2.out.below hw3_) HG.out HL1.out).mono ?_
 rintro e wd ⟨n1, A1, c1, l1, rfl, i1, hb⟩
 replace x0 := x0.below hb
 have hw4_ := bt hw3_ hb
 clear hb hw3_
 have HI1 := Hi i1
 clear i1
 go_wp2_with fail
 refine (Rone_iv wd).mono ?_
 rintro e we ⟨n2, A2, c2, l2, rfl, i2, hb⟩
 replace x0 := x0.below hb
 replace HI1 := Hi (HI1.out.below hb)
 have hw5_ := bt hw4_ hb
 clear hb hw4_
 have HI2 := Hi i2
 clear i2
 go_wp2_with fail
 refine (Same_iv HI1.out HI2.out).mono ?_
 rintro e wf ⟨rfl, hb⟩
 replace x0 := x0.below hb
 replace HI1 := Hi (HI1.out.below hb)
 replace HI2 := Hi (HI2.out.below hb)
 have hw6_ := bt hw5_ hb
 clear hb hw5_
 go_wp2_with fail
 go_ret
 exact ⟨rfl, hw6_⟩
end Go.Proofs.YtgljdfblgpdaaaaGreatDoor
