import Derived.Test.YtgljdfblgpdaaaaGreatDoorPbRefV
import Derived.Test.YtgljdfblgpdaaaaGreatDoorSiNumEx
import Derived.Test.YtgljdfblgpdaaaaGreatDoorSiNumParse
import Derived.Test.YtgljdfblgpdaaaaGreatDoorSiNumRefD
set_option linter.unusedSimpArgs false
set_option linter.unusedVariables false
set_option maxRecDepth 100000
set_option maxHeartbeats 4000000
namespace Go.Proofs.YtgljdfblgpdaaaaGreatDoor
open Go.RowKit Go.Shelf
theorem RCmp_iv {w : World} {n m : Bool} {A B : Option Addr} {c d : Nat} {l k : List Nat} {x y v : Int} (h : IV w n A c l x) (h2 : IV w m B d k y) (hv : cmpI x y = v) :
  Calls Tryz.prog 61 #[.agg #[.bool n, .slice A l.length c], .agg #[.bool m, .slice B k.length d]] w fun e w' => e = .returned (.int .i64 v) ∧ Below w.heap.size w w' := by
 have e1 := h.len
 have e2 := h2.len
 have r := RCmp_any n m A B l.length c k.length d l k true true w rfl rfl (by omega) (by omega) h.ws h2.ws h.can h2.can
 rwa [if_pos (show (true && true) = true from rfl), h.val, h2.val, hv] at r
end Go.Proofs.YtgljdfblgpdaaaaGreatDoor
