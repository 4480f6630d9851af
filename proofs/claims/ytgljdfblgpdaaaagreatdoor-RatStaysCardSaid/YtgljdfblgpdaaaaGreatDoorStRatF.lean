import Derived.Test.YtgljdfblgpdaaaaGreatDoorPbRatF
import Derived.Test.YtgljdfblgpdaaaaGreatDoorStRatM
set_option linter.unusedSimpArgs false
set_option linter.unusedVariables false
set_option maxRecDepth 100000
set_option maxHeartbeats 4000000
namespace Go.Proofs.YtgljdfblgpdaaaaGreatDoor
open Go.RowKit Go.Shelf
theorem upright_pos {w : World} {n m : Bool} {A B : Option Addr} {c d : Nat} {l k : List Nat} {x y : Int} (h : IV w n A c l x) (h2 : IV w m B d k y) (hs : 0 < y) :
  Calls Tryz.prog 104 #[.agg #[.bool n, .slice A l.length c], .agg #[.bool m, .slice B k.length d]] w (RIQ w x y) := by
 have HL1 := Hi (lt_neg (lt_le (lt_val h.ws h.val) h.len))
 have HL2 := Hi (lt_neg (lt_le (lt_val h2.ws h2.val) h2.len))
 have H1 := Hi h
 have H2 := Hi h2
 have HS := Hi hs
 clear h h2 hs
 obtain ⟨W1, hW1, hw1, x0, x1, x2⟩ := hdIIq w n A c l m B d k
 go_enter Tryz.func104, Tryz.ntmps104
 go_wp2_with fail
 rw [← hW1]
 clear hW1
 refine (Sign_iv (H2.out.below hw1) rfl).mono ?_
 rintro e w1 ⟨rfl, hb⟩
 replace x0 := x0.below hb
 replace x1 := x1.below hb
 replace x2 := x2.below hb
 have hw1_ := bt hw1 hb
 clear hb hw1
 obtain ⟨C00, C01⟩ := x0.cs
 obtain ⟨C10, C11⟩ := x1.cs
 rw [show cmpI y 0 = 1 from cmpI_pos HS.out]
 obtain ⟨f0, f1, f2, f3⟩ := x2.fr
 obtain ⟨r0, r1, r2, r3⟩ := x2.cs
 go_wp2_with fail
 have z2 := x2.stored (.bool n) (.slice A l.length c) (.bool m) (.slice B k.length d)
 obtain ⟨k0, k1, k2, k3⟩ := z2.cs
 refine bodyPost_ret (v := .agg #[.bool n, .slice A l.length c, .bool m, .slice B k.length d]) (by simp [results, Tryz.results104, go_sem, k0, k1, k2, k3]) rfl ?_
 exact riq_store hw1_ (by omega) x2 (H1.out.below hw1_) (H2.out.below hw1_)
end Go.Proofs.YtgljdfblgpdaaaaGreatDoor
