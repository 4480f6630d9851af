import Derived.Test.YtgljdfblgpdaaaaGreatDoorPbRefX
import Derived.Test.YtgljdfblgpdaaaaGreatDoorCoRefT
set_option linter.unusedSimpArgs false
set_option linter.unusedVariables false
set_option maxRecDepth 100000
set_option maxHeartbeats 4000000
namespace Go.Proofs.YtgljdfblgpdaaaaGreatDoor
open Go.RowKit Go.Shelf
variable {A : Option Addr} {c : Nat} {l : List Nat} {n : Bool} {w : World} {x : Int}
theorem RBits_iv (h : IV w n A c l x) :
  Calls Tryz.prog 113 #[.agg #[.bool n, .slice A l.length c]] w fun e w' => e = .returned (.int .i64 ((bl l : Nat) : Int)) ∧ Below w.heap.size w w' := by
 have e1 := h.len
 have r := RBits_any n A l.length c l true w rfl (by omega) h.ws h.can
 rwa [if_pos rfl] at r
theorem RQBits_iv {n m : Bool} {A B : Option Addr} {c d : Nat} {l k : List Nat} {x y : Int} (h : IV w n A c l x) (h2 : IV w m B d k y) :
  Calls Tryz.prog 54 #[.agg #[.bool n, .slice A l.length c, .bool m, .slice B k.length d]] w fun e w' => e = .returned (.int .i64 ((max (bl l) (bl k) : Nat) : Int)) ∧ Below w.heap.size w w' := by
 have H1 := Hi h
 have H2 := Hi h2
 clear h h2
 obtain ⟨W1, hW1, hw1, x0⟩ := hdQ w n A c l m B d k
 go_enter Tryz.func54, Tryz.ntmps54
 go_wp2_with fail
 rw [← hW1]
 clear hW1
 refine g0 ?_
 intros
 have HC := x0.hc
 have HW := Hi hw1
 have Gx0 := Hi x0
 clear x0 hw1
 refine rg0 7 HC fun hHeld => ?_
 refine tk 0 ?_
 refine tk 1 ?_
 refine tk 3 ?_
 refine tk 4 ?_
 refine cl 2 fun K hK => ?_
 go_simp
 go_at_call 113
 refine (RBits_iv (H1.out.below (bt HW.out (bw (b0 _))))).mono ?_
 rintro e wa ⟨rfl, hb⟩
 have HBwa := Hi (bt (bw (b0 W1)) hb)
 clear hb  hHeld
 refine rk hK (HC.out _ HBwa.out) fun hHeld => ?_
 clear hK K
 refine cl 5 fun K hK => ?_
 go_simp
 go_at_call 113
 refine (RBits_iv (H2.out.below (bt HW.out HBwa.out))).mono ?_
 rintro e wb ⟨rfl, hb⟩
 have HBwb := Hi (bt HBwa.out hb)
 clear hb  hHeld
 refine rk hK (HC.out _ HBwb.out) fun hHeld => ?_
 clear hK K
 refine tk 6 ?_
 refine wpAnyH_done (by kernel_rfl) ?_ _
 simp only [HT]
 clear hHeld
 have hw1_ := bt HW.out HBwb.out
 go_wp2_with fail
 go_ret
 exact ⟨by rw [show ((max (bl l) (bl k) : Nat) : Int) = max ((bl l : Nat) : Int) ((bl k : Nat) : Int) by omega]; rfl, hw1_⟩
end Go.Proofs.YtgljdfblgpdaaaaGreatDoor
