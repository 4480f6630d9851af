import Derived.Test.YtgljdfblgpdaaaaGreatDoorPbNumPow
set_option linter.unusedSimpArgs false
set_option linter.unusedVariables false
set_option maxRecDepth 100000
set_option maxHeartbeats 4000000
namespace Go.Proofs.YtgljdfblgpdaaaaGreatDoor
open Go.RowKit
variable {W : World} {p q r : Nat} {u0 u1 v0 v1 x0 x1 : Value}
open Go.RowKit
variable {W : World} {p q r : Nat} {u0 u1 v0 v1 x0 x1 : Value}
open Go.RowKit
variable {W : World} {p q r : Nat} {u0 u1 v0 v1 x0 x1 : Value}
theorem s8 {p q r s : Nat} {u0 u1 v0 v1 x0 x1 y0 y1 : Value} (h0 : Box2 W p u0 u1) (h1 : Box2 W q v0 v1) (h2 : Box2 W r x0 x1) (h3 : Box2 W s y0 y1) :
  W.cell? ⟨p, 0, none⟩ = some u0 ∧ W.cell? ⟨p, 1, none⟩ = some u1 ∧ W.cell? ⟨q, 0, none⟩ = some v0 ∧ W.cell? ⟨q, 1, none⟩ = some v1 ∧ W.cell? ⟨r, 0, none⟩ = some x0 ∧ W.cell? ⟨r, 1, none⟩ = some x1 ∧ W.cell? ⟨s, 0, none⟩ = some y0 ∧ W.cell? ⟨s, 1, none⟩ = some y1 :=
 ⟨h0.cell0, h0.cell1, h1.cell0, h1.cell1, h2.cell0, h2.cell1, h3.cell0, h3.cell1⟩
theorem s6 (h0 : Box2 W p u0 u1) (h1 : Box2 W q v0 v1) (h2 : Box2 W r x0 x1) :
  W.cell? ⟨p, 0, none⟩ = some u0 ∧ W.cell? ⟨p, 1, none⟩ = some u1 ∧ W.cell? ⟨q, 0, none⟩ = some v0 ∧ W.cell? ⟨q, 1, none⟩ = some v1 ∧ W.cell? ⟨r, 0, none⟩ = some x0 ∧ W.cell? ⟨r, 1, none⟩ = some x1 :=
 ⟨h0.cell0, h0.cell1, h1.cell0, h1.cell1, h2.cell0, h2.cell1⟩
end Go.Proofs.YtgljdfblgpdaaaaGreatDoor
