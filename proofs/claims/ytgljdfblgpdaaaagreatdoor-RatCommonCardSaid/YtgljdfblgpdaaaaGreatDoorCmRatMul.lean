import Derived.Test.YtgljdfblgpdaaaaGreatDoorCmNumMac
import Derived.Test.YtgljdfblgpdaaaaGreatDoorCmRatQ
set_option linter.unusedSimpArgs false
set_option linter.unusedVariables false
set_option maxRecDepth 100000
set_option maxHeartbeats 4000000
namespace Go.Proofs.YtgljdfblgpdaaaaGreatDoor
open Go Go.RowKit Go.Shelf
def bd1 (d : Bool) (v : QW) : Value := if d then .slice v.A v.l.length v.c else .slice none 0 0
def bd2 (d : Bool) (v : QW) : Value := if d then .bool v.m else .bool false
def bd3 (d : Bool) (v : QW) : Value := if d then .slice v.B v.k.length v.d else .slice none 0 0
def LaidQ (W1 : World) (M : Nat) (q : Rat) (x : Value) (wx : World) (b : Nat) (v : QW) : Prop :=
 x = .pointer (some ⟨b, 0, none⟩) ∧ W1.heap.size ≤ b ∧ Box4 wx b (.bool v.n) (.slice v.A v.l.length v.c) (.bool v.m) (.slice v.B v.k.length v.d) ∧ QV M wx v q
def Laid1 (W1 : World) (M : Nat) (q : Rat) (x e : Value) (wx : World) : Prop := ∃ v b, LaidQ W1 M q x wx b v ∧ e = .int .i64 0 ∧ Below W1.heap.size W1 wx
end Go.Proofs.YtgljdfblgpdaaaaGreatDoor
