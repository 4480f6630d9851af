import Derived.Test.YtgljdfblgpdaaaaGreatDoorPbNumRef
set_option linter.unusedSimpArgs false
set_option linter.unusedVariables false
set_option maxRecDepth 100000
set_option maxHeartbeats 4000000
namespace Go.Proofs.YtgljdfblgpdaaaaGreatDoor
open Go.RowKit
open Go.RowKit
open Go.RowKit
open Go.RowKit
theorem cmpN_swap (x y : Nat) : -(cmpN x y) = cmpN y x := by unfold cmpN; (repeat' split) <;> omega
theorem cmpN_lo (x y : Nat) : -1 ≤ cmpN x y ∧ cmpN x y ≤ 1 := by unfold cmpN; (repeat' split) <;> omega
open Go.RowKit
end Go.Proofs.YtgljdfblgpdaaaaGreatDoor
