import Derived.Test.YtgljdfblgpdaaaaGreatDoorPbRatMac
import Derived.Test.YtgljdfblgpdaaaaGreatDoorCoNumEx
import Derived.Test.YtgljdfblgpdaaaaGreatDoorCoNumParse
set_option linter.unusedSimpArgs false
set_option linter.unusedVariables false
set_option maxRecDepth 100000
set_option maxHeartbeats 4000000
namespace Go.Proofs.YtgljdfblgpdaaaaGreatDoor
open Go.RowKit
variable {x y : Int}
theorem can_inv (h : Can x y) (hx : 0 < x) : Can y x := ⟨hx, by rw [Nat.gcd_comm]; exact h.2⟩
theorem can_pow (h : Can x y) (n : Nat) : Can (x ^ n) (y ^ n) := by
 refine ⟨Int.pow_pos h.1, ?_⟩
 rw [Int.natAbs_pow, Int.natAbs_pow]
 exact Nat.Coprime.pow _ _ h.2
end Go.Proofs.YtgljdfblgpdaaaaGreatDoor
