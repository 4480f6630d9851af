import Derived.Test.YtgljdfblgpdaaaaGreatDoorPbNumParse
import Derived.Test.YtgljdfblgpdaaaaGreatDoorTyNumTxM
set_option linter.unusedSimpArgs false
set_option linter.unusedVariables false
set_option maxRecDepth 100000
set_option maxHeartbeats 4000000
namespace Go.Proofs.YtgljdfblgpdaaaaGreatDoor
open Go.RowKit Go.Shelf
attribute [local go_sem] Oper.semAt_some
open Go.RowKit Go.Shelf
theorem bg_at {L : List UInt8} {j : Nat} (h : j < L.length) : bg L j = L[j] := by simp [bg, List.getD_eq_getElem?_getD, List.getElem?_eq_getElem h]
open Go.RowKit Go.Shelf
attribute [local go_sem] Oper.semAt_some
end Go.Proofs.YtgljdfblgpdaaaaGreatDoor
