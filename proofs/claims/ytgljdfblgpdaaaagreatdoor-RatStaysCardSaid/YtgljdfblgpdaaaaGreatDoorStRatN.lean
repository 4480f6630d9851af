import Derived.Test.YtgljdfblgpdaaaaGreatDoorPbRatP
import Derived.Test.YtgljdfblgpdaaaaGreatDoorStRatI
import Derived.Test.YtgljdfblgpdaaaaGreatDoorStNumBackV
set_option linter.unusedSimpArgs false
set_option linter.unusedVariables false
set_option maxRecDepth 100000
set_option maxHeartbeats 4000000
namespace Go.Proofs.YtgljdfblgpdaaaaGreatDoor
open Go.RowKit Go.Shelf
theorem QPrint_one {w : World} {n m : Bool} {A B : Option Addr} {c d : Nat} {l k : List Nat} {x y : Int} (h : IV w n A c l x) (h2 : IV w m B d k y) (hT : Tens w) (hy : y = 1) :
  Calls Tryz.prog 66 #[.agg #[.bool n, .slice A l.length c, .bool m, .slice B k.length d]] w (PrQ w x y) := by
 have H1 := Hi h
 have H2 := Hi h2
 have HTN := Hi hT
 have HY := Hi hy
 clear h h2 hT hy
 obtain ⟨W1, hW1, hw1, x0⟩ := hdQ w n A c l m B d k
 go_enter Tryz.func66, Tryz.ntmps66
 go_wp2_with fail
 rw [← hW1]
 clear hW1
 refine g0 ?_
 intros
 refine (isOne_iv (H2.out.below hw1)).mono ?_
 rintro e w2 ⟨rfl, hb⟩
 replace x0 := x0.below hb
 have hw1_ := bt hw1 hb
 clear hb hw1
 rw [show decide (y = 1) = true from decide_eq_true HY.out]
 refine g0 ?_
 intros
 refine (Print_iv (H1.out.below hw1_) (HTN.out.below hw1_)).mono ?_
 rintro e w3 ⟨s, rfl, hs, hb⟩
 replace x0 := x0.below hb
 have hw2_ := bt hw1_ hb
 clear hb hw1_
 go_wp2_with fail
 go_ret
 exact ⟨s, rfl, .inl ⟨HY.out, hs⟩, hw2_⟩
end Go.Proofs.YtgljdfblgpdaaaaGreatDoor
