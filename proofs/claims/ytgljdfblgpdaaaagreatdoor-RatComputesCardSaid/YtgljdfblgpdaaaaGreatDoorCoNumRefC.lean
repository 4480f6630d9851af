import Derived.Test.YtgljdfblgpdaaaaGreatDoorPbNumRefC
import Derived.Test.YtgljdfblgpdaaaaGreatDoorCoNumRef
set_option linter.unusedSimpArgs false
set_option linter.unusedVariables false
set_option maxRecDepth 100000
set_option maxHeartbeats 4000000
namespace Go.Proofs.YtgljdfblgpdaaaaGreatDoor
open Go.RowKit
theorem RBits_any (neg : Bool) (A : Option Addr) (n c : Nat) (l : List Nat) (p : Bool) (w : World) (hn : l.length = n) (hm : n ≤ 4000000) (hl : WS w A l) (hp : isB neg l = p) :
  Calls Tryz.prog 113 #[.agg #[.bool neg, .slice A n c]] w fun e w' => e = .returned (.int .i64 (if p then (bl l : Int) else 0)) ∧ Below w.heap.size w w' := by
 subst hn
 have HP := Hi hp
 clear hp
 cases p
 ·go_enter Tryz.func113, Tryz.ntmps113
  go_wp2_with fail
  refine (RIs_any neg A _ c l _ rfl hm (hl.below (ba (b0 _) _))).mono ?_
  rintro e w1 ⟨rfl, hb⟩
  rw [HP.out]
  obtain ⟨hc1, hf1⟩ := bcell hb
  have hz1 := hb.size
  go_wp2_with fail
  go_ret
  exact ⟨rfl, bt (ba (b0 _) _) hb⟩
 ·go_enter Tryz.func113, Tryz.ntmps113
  go_wp2_with fail
  refine (RIs_any neg A _ c l _ rfl hm (hl.below (ba (b0 _) _))).mono ?_
  rintro e w1 ⟨rfl, hb⟩
  rw [HP.out]
  obtain ⟨hc1, hf1⟩ := bcell hb
  have hz1 := hb.size
  go_wp2_with fail
  refine (RbitsOf_any A _ c l _ rfl hm (hl.below (bt (ba (b0 _) _) hb))).mono ?_
  rintro e w2 ⟨rfl, rfl⟩
  go_wp2_with fail
  go_ret
  exact ⟨rfl, bt (ba (b0 _) _) hb⟩
end Go.Proofs.YtgljdfblgpdaaaaGreatDoor
