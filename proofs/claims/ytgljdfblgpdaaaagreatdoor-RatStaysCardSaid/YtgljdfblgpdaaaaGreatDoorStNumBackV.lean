import Derived.Test.YtgljdfblgpdaaaaGreatDoorPbNumBackV
import Derived.Test.YtgljdfblgpdaaaaGreatDoorStNumEx
import Derived.Test.YtgljdfblgpdaaaaGreatDoorStNumParse
set_option linter.unusedSimpArgs false
set_option linter.unusedVariables false
set_option maxRecDepth 100000
set_option maxHeartbeats 4000000
namespace Go.Proofs.YtgljdfblgpdaaaaGreatDoor
open Go.RowKit
theorem bl_lt {l : List Nat} (hw : ∀ x ∈ l, x < 4294967296) (ht : Top l) : val l < 2 ^ bl l := by
 rcases Nat.eq_zero_or_pos l.length with h0 | h0
 ·rw [List.eq_nil_of_length_eq_zero h0]; exact Nat.two_pow_pos _
 ·exact (bl_bound hw ht h0).1
end Go.Proofs.YtgljdfblgpdaaaaGreatDoor
