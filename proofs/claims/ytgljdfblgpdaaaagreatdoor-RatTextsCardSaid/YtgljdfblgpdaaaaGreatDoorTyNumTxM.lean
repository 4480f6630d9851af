import Derived.Test.YtgljdfblgpdaaaaGreatDoorPbNumTxM
import Derived.Test.YtgljdfblgpdaaaaGreatDoorTyNumBase
set_option linter.unusedSimpArgs false
set_option linter.unusedVariables false
set_option maxRecDepth 100000
set_option maxHeartbeats 4000000
namespace Go.Proofs.YtgljdfblgpdaaaaGreatDoor
open Go.RowKit
open Go.RowKit
open Go.RowKit Go.Shelf
attribute [local go_sem] Oper.semAt_some
open Go.RowKit Go.Shelf
attribute [local go_sem] Oper.semAt_some
open Go.RowKit
open Go.RowKit
end Go.Proofs.YtgljdfblgpdaaaaGreatDoor
