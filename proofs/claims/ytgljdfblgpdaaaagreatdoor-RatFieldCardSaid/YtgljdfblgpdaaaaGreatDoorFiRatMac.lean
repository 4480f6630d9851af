import Derived.Test.YtgljdfblgpdaaaaGreatDoorFiNumMac
import Derived.Test.YtgljdfblgpdaaaaGreatDoorFiRatM
set_option linter.unusedSimpArgs false
set_option linter.unusedVariables false
set_option maxRecDepth 100000
set_option maxHeartbeats 4000000
namespace Go.Proofs.YtgljdfblgpdaaaaGreatDoor
open Go Go.RowKit
theorem hdQQQ (w : World) (n : Bool) (A : Option Addr) (c : Nat) (l : List Nat) (m : Bool) (B : Option Addr) (d : Nat) (k : List Nat) (n' : Bool) (A' : Option Addr) (c' : Nat) (l' : List Nat) (m' : Bool) (B' : Option Addr) (d' : Nat) (k' : List Nat) (n2 : Bool) (A2 : Option Addr) (c2 : Nat) (l2 : List Nat) (m2 : Bool) (B2 : Option Addr) (d2 : Nat) (k2 : List Nat) : ∃ W, W = ((w.alloc (.cells #[.bool n, .slice A l.length c, .bool m, .slice B k.length d] 35)).alloc (.cells #[.bool n', .slice A' l'.length c', .bool m', .slice B' k'.length d'] 35)).alloc (.cells #[.bool n2, .slice A2 l2.length c2, .bool m2, .slice B2 k2.length d2] 35) ∧ Below w.heap.size w W ∧ Box4 W (w.heap.size) (.bool n) (.slice A l.length c) (.bool m) (.slice B k.length d) ∧ Box4 W (w.heap.size + 1) (.bool n') (.slice A' l'.length c') (.bool m') (.slice B' k'.length d') ∧ Box4 W (w.heap.size + 1 + 1) (.bool n2) (.slice A2 l2.length c2) (.bool m2) (.slice B2 k2.length d2) := hd444 w (.bool n) (.slice A l.length c) (.bool m) (.slice B k.length d) (.bool n') (.slice A' l'.length c') (.bool m') (.slice B' k'.length d') (.bool n2) (.slice A2 l2.length c2) (.bool m2) (.slice B2 k2.length d2)
end Go.Proofs.YtgljdfblgpdaaaaGreatDoor
