import Derived.Test.YtgljdfblgpdaaaaGreatDoorPbRatMac
import Derived.Test.YtgljdfblgpdaaaaGreatDoorStNumEx
import Derived.Test.YtgljdfblgpdaaaaGreatDoorStNumParse
set_option linter.unusedSimpArgs false
set_option linter.unusedVariables false
set_option maxRecDepth 100000
set_option maxHeartbeats 4000000
namespace Go.Proofs.YtgljdfblgpdaaaaGreatDoor
open Go.RowKit
theorem can_inv {x y : Int} (h : Can x y) (hx : 0 < x) : Can y x := ⟨hx, by rw [Nat.gcd_comm]; exact h.2⟩
theorem fN_abs {p q : Int} (hq : q ≠ 0) : (fN p q).natAbs ≤ p.natAbs := by
 have h1 := congrArg Int.natAbs (fN_mul (p := p) hq)
 rw [Int.natAbs_mul, Int.natAbs_natCast] at h1
 have hg := gcd_pos' (p := p) hq
 have h2 : (fN p q).natAbs * 1 ≤ (fN p q).natAbs * Nat.gcd p.natAbs q.natAbs := Nat.mul_le_mul_left _ hg
 rw [h1] at h2
 split at h2 <;> omega
end Go.Proofs.YtgljdfblgpdaaaaGreatDoor
