import Derived.Test.YtgljdfblgpdaaaaGreatDoorPbRatP
import Derived.Test.YtgljdfblgpdaaaaGreatDoorTyNumWMul
import Derived.Test.YtgljdfblgpdaaaaGreatDoorTyNumTxt
set_option linter.unusedSimpArgs false
set_option linter.unusedVariables false
set_option maxRecDepth 100000
set_option maxHeartbeats 4000000
namespace Go.Proofs.YtgljdfblgpdaaaaGreatDoor
open Go.RowKit Go.Shelf
set_option maxRecDepth 100000 in
set_option maxHeartbeats 4000000 in
theorem QPrint_one {w : World} {n m : Bool} {A B : Option Addr} {c d : Nat} {l k : List Nat} {x y : Int} (h : IV w n A c l x) (h2 : IV w m B d k y) (hT : Tens w) (hy : y = 1) :
    Calls Tryz.prog 66 #[.agg #[.bool n, .slice A l.length c, .bool m, .slice B k.length d]] w (PrQ w x y) := by
  have H1 := Lib.hid h
  have H2 := Lib.hid h2
  have HTN := Lib.hid hT
  have HY := Lib.hid hy
  clear h h2 hT hy
  obtain ⟨W1, hW1, hw1, x0⟩ : ∃ W, W = w.alloc (.cells #[.bool n, .slice A l.length c, .bool m, .slice B k.length d] 35) ∧ Below w.heap.size w W ∧ Box4 W (w.heap.size) (.bool n) (.slice A l.length c) (.bool m) (.slice B k.length d) := by
    refine ⟨_, rfl, ba (b0 _) _, ?_⟩
    · have h := Box4.new w (.bool n) (.slice A l.length c) (.bool m) (.slice B k.length d)
      exact h
  go_enter Tryz.func66, Tryz.ntmps66
  go_wp2_with fail
  rw [← hW1]
  clear hW1
  have c_x0_0 := x0.cell0
  have c_x0_1 := x0.cell1
  have c_x0_2 := x0.cell2
  have c_x0_3 := x0.cell3
  go_wp2_with fail
  refine (isOne_iv (H2.out.below hw1)).mono ?_
  rintro e w2 ⟨rfl, hb⟩
  clear c_x0_0 c_x0_1 c_x0_2 c_x0_3
  replace x0 := x0.below hb
  have hw1_ := bt hw1 hb
  clear hb hw1 
  rw [show decide (y = 1) = true from decide_eq_true HY.out]
  have c_x0_0 := x0.cell0
  have c_x0_1 := x0.cell1
  have c_x0_2 := x0.cell2
  have c_x0_3 := x0.cell3
  go_wp2_with fail
  refine (Print_iv (H1.out.below hw1_) (HTN.out.below hw1_)).mono ?_
  rintro e w3 ⟨s, rfl, hs, hb⟩
  clear c_x0_0 c_x0_1 c_x0_2 c_x0_3
  replace x0 := x0.below hb
  have hw2_ := bt hw1_ hb
  clear hb hw1_ 
  go_wp2_with fail
  go_ret
  exact ⟨s, rfl, .inl ⟨HY.out, hs⟩, hw2_⟩
end Go.Proofs.YtgljdfblgpdaaaaGreatDoor
