import Derived.Test.YtgljdfblgpdaaaaGreatDoorPbRefX
import Derived.Test.YtgljdfblgpdaaaaGreatDoorStRatI
import Derived.Test.YtgljdfblgpdaaaaGreatDoorStNumBackV
set_option linter.unusedSimpArgs false
set_option linter.unusedVariables false
set_option maxRecDepth 100000
set_option maxHeartbeats 4000000
namespace Go.Proofs.YtgljdfblgpdaaaaGreatDoor
open Go.RowKit Go.Shelf
theorem bl_small {l : List Nat} (hw : ∀ x ∈ l, x < 4294967296) (ht : Top l) (h : bl l < 2) : val l ≤ 1 := by
 have h1 := bl_lt hw ht
 have h2 : 2 ^ bl l ≤ 2 ^ 1 := Nat.pow_le_pow_right (by decide) (by omega)
 omega
end Go.Proofs.YtgljdfblgpdaaaaGreatDoor
