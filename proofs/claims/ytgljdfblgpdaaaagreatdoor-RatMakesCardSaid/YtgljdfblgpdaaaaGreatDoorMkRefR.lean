import Derived.Test.YtgljdfblgpdaaaaGreatDoorPbRefV
import Derived.Test.YtgljdfblgpdaaaaGreatDoorMkRatI
set_option linter.unusedSimpArgs false
set_option linter.unusedVariables false
set_option maxRecDepth 100000
set_option maxHeartbeats 4000000
namespace Go.Proofs.YtgljdfblgpdaaaaGreatDoor
open Go.RowKit Go.Shelf
theorem RQWhole_iv {w : World} {n : Bool} {A : Option Addr} {c : Nat} {l : List Nat} {x : Int} (h : IV w n A c l x) :
  Calls Tryz.prog 34 #[.agg #[.bool n, .slice A l.length c]] w (RIQ w x 1) := by
 have H1 := Hi h
 clear h
 obtain ⟨W1, hW1, hw1, x0, x1⟩ := hdIq w n A c l
 go_enter Tryz.func34, Tryz.ntmps34
 go_wp2_with fail
 rw [← hW1]
 clear hW1
 refine g0i ?_
 intros
 have HC := x0.hc
 have HW := Hi hw1
 have Gx0 := Hi x0
 have Gx1 := Hi x1
 clear x0 x1 hw1
 refine rg0 3 HC fun hHeld => ?_
 refine tk 0 ?_
 refine cl 1 fun K hK => ?_
 go_simp
 go_at_call 107
 refine (Rone_iv _).mono ?_
 rintro e w2 ⟨n1, A1, c1, l1, rfl, i1, hb⟩
 have HBw2 := Hi (bt (bw (b0 W1)) hb)
 have HI1 := Hi i1
 clear hb i1 hHeld
 refine rk hK (HC.out _ HBw2.out) fun hHeld => ?_
 clear hK K
 refine tk 2 ?_
 refine wpAnyH_done (by kernel_rfl) ?_ _
 simp only [HT]
 clear hHeld
 have x1 := Gx1.out.below HBw2.out
 have hw1_ := bt HW.out HBw2.out
 obtain ⟨f0, f1, f2, f3⟩ := x1.fr
 obtain ⟨r0, r1, r2, r3⟩ := x1.cs
 go_wp2_with fail
 have z2 := x1.stored (.bool n) (.slice A l.length c) (.bool n1) (.slice A1 l1.length c1)
 obtain ⟨k0, k1, k2, k3⟩ := z2.cs
 refine bodyPost_ret (v := .agg #[.bool n, .slice A l.length c, .bool n1, .slice A1 l1.length c1]) (by simp [results, Tryz.results34, go_sem, k0, k1, k2, k3]) rfl ?_
 exact riq_store hw1_ (by omega) x1 (H1.out.below hw1_) HI1.out
end Go.Proofs.YtgljdfblgpdaaaaGreatDoor
