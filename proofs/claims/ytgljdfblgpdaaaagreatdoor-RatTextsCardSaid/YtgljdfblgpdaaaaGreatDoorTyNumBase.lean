import Derived.Test.YtgljdfblgpdaaaaGreatDoorPbNumMac
set_option linter.unusedSimpArgs false
set_option linter.unusedVariables false
set_option maxRecDepth 100000
set_option maxHeartbeats 4000000
namespace Go.Proofs.YtgljdfblgpdaaaaGreatDoor
open Go.RowKit
theorem ocell {g : Nat} {W w1 : World} (hb : Only g W w1) : (∀ b o, b < W.heap.size → b ≠ g → w1.cell? ⟨b, o, none⟩ = W.cell? ⟨b, o, none⟩) ∧ (∀ b o, b < W.heap.size → b ≠ g → w1.frozen? ⟨b, o, none⟩ = W.frozen? ⟨b, o, none⟩) :=
  ⟨fun b _ h hn => World.cell?_of_block (hb.block b h (fun q => hn (by injection q))), fun b _ h hn => World.frozen?_of_block (hb.block b h (fun q => hn (by injection q)))⟩
end Go.Proofs.YtgljdfblgpdaaaaGreatDoor
