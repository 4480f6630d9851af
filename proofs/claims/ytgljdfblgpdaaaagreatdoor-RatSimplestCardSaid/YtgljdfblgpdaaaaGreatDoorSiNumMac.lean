import Derived.Test.YtgljdfblgpdaaaaGreatDoorPbNumMac
set_option linter.unusedSimpArgs false
set_option linter.unusedVariables false
set_option maxRecDepth 100000
set_option maxHeartbeats 4000000
namespace Go.Proofs.YtgljdfblgpdaaaaGreatDoor
open Go Go.RowKit
section
variable {P : Program} {ops : Array Oper} {Q : Exit → Act → World → Prop} {md : Region.Mode} {S : World → Prop}
end
section
variable {P : Program} {Q : Exit → Act → World → Prop} {S : World → Prop}
theorem g012 {P R : Prop} (hR : R) (h : R → P := by (intro hr_; obtain ⟨_, _, _, _⟩ := x0.cs; obtain ⟨_, _, _, _⟩ := x1.cs; obtain ⟨_, _, _, _⟩ := x2.cs; go_wp2_with fail; exact gend hr_)) : P := h hR
end
end Go.Proofs.YtgljdfblgpdaaaaGreatDoor
