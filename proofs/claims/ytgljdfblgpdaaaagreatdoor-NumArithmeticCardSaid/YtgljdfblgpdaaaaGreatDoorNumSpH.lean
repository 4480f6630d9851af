/- The specification by value: Quo and Mod. -/
import Derived.Test.YtgljdfblgpdaaaaGreatDoorNumSpG
import Derived.Deep.DeepCutAuto
set_option linter.unusedSimpArgs false
set_option linter.unusedVariables false
namespace Go.Proofs.YtgljdfblgpdaaaaGreatDoor
open Go.RowKit Go.Shelf

set_option maxRecDepth 100000 in
set_option maxHeartbeats 2000000 in
theorem RQuo_iv {w : World} {na nb : Bool} {A B : Option Addr} {ca cb : Nat} {la lb : List Nat} {x y : Int} (ia : IV w na A ca la x) (ib : IV w nb B cb lb y) (hy : y ≠ 0) :
    Calls Tryz.prog 97 #[.agg #[.bool na, .slice A la.length ca], .agg #[.bool nb, .slice B lb.length cb]] w (RIV w (x / y)) := by
  have HY := Lib.hid hy
  clear hy
  go_enter Tryz.func97, Tryz.ntmps97
  go_wp2_with fail
  refine (RDiv_iv (ia.below (ba (ba (ba (b0 _) _) _) _)) (ib.below (ba (ba (ba (b0 _) _) _) _)) HY.out).mono ?_
  rintro e w1 ⟨n1, A1, c1, l1, n2, A2, c2, l2, rfl, i1, i2, hb⟩
  have hbx := (Box2.new ((w.alloc (.cells #[.bool na, .slice A la.length ca] 24)).alloc (.cells #[.bool nb, .slice B lb.length cb] 24)) (.bool false) (.slice none 0 0)).below hb
  rw [World.size_alloc, World.size_alloc] at hbx
  have hK := bt (ba (ba (ba (b0 w) _) _) _) hb
  have HI1 := Lib.hid i1
  have HI2 := Lib.hid i2
  clear hb i1 i2
  go_upto_region 2 with fail
  obtain ⟨w2, hw⟩ : ∃ W, W = (w1.alloc (.cells #[.bool n1, .slice A1 l1.length c1] 24)).alloc (.cells #[.bool n2, .slice A2 l2.length c2] 24) := ⟨_, rfl⟩
  have X1 : Box2 w2 w1.heap.size (.bool n1) (.slice A1 l1.length c1) := by rw [hw]; exact (Box2.new _ _ _).alloc _
  have X2 : Box2 w2 (w1.heap.size + 1) (.bool n2) (.slice A2 l2.length c2) := by
    rw [hw]
    have := Box2.new (w1.alloc (.cells #[.bool n1, .slice A1 l1.length c1] 24)) (.bool n2) (.slice A2 l2.length c2)
    rwa [World.size_alloc] at this
  have hb2 : Below w1.heap.size w1 w2 := by rw [hw]; exact ba (ba (b0 _) _) _
  rw [← hw]
  clear hw
  have bx := hbx.below hb2
  have q0 := X1.cell0
  have q1 := X1.cell1
  have q2 := X2.cell0
  have q3 := X2.cell1
  have x0 := bx.cell0
  have x1 := bx.cell1
  have f0 := bx.free 0
  have f1 := bx.free 1
  obtain ⟨k0, k1, k2⟩ := bx.back (.bool n1) (.slice A1 l1.length c1)
  go_wp2_with fail
  refine bodyPost_ret (v := .agg #[.bool n1, .slice A1 l1.length c1]) (by simp [results, Tryz.results97, go_sem, k0, k2]) rfl ?_
  exact riv_store (bt hK hb2) (by omega) bx (HI1.out.below hb2)

set_option maxRecDepth 100000 in
set_option maxHeartbeats 2000000 in
theorem RMod_iv {w : World} {na nb : Bool} {A B : Option Addr} {ca cb : Nat} {la lb : List Nat} {x y : Int} (ia : IV w na A ca la x) (ib : IV w nb B cb lb y) (hy : y ≠ 0) :
    Calls Tryz.prog 96 #[.agg #[.bool na, .slice A la.length ca], .agg #[.bool nb, .slice B lb.length cb]] w (RIV w (x % y)) := by
  have HY := Lib.hid hy
  clear hy
  go_enter Tryz.func96, Tryz.ntmps96
  go_wp2_with fail
  refine (RDiv_iv (ia.below (ba (ba (ba (b0 _) _) _) _)) (ib.below (ba (ba (ba (b0 _) _) _) _)) HY.out).mono ?_
  rintro e w1 ⟨n1, A1, c1, l1, n2, A2, c2, l2, rfl, i1, i2, hb⟩
  have hbx := (Box2.new ((w.alloc (.cells #[.bool na, .slice A la.length ca] 24)).alloc (.cells #[.bool nb, .slice B lb.length cb] 24)) (.bool false) (.slice none 0 0)).below hb
  rw [World.size_alloc, World.size_alloc] at hbx
  have hK := bt (ba (ba (ba (b0 w) _) _) _) hb
  have HI1 := Lib.hid i1
  have HI2 := Lib.hid i2
  clear hb i1 i2
  go_upto_region 2 with fail
  obtain ⟨w2, hw⟩ : ∃ W, W = (w1.alloc (.cells #[.bool n1, .slice A1 l1.length c1] 24)).alloc (.cells #[.bool n2, .slice A2 l2.length c2] 24) := ⟨_, rfl⟩
  have X1 : Box2 w2 w1.heap.size (.bool n1) (.slice A1 l1.length c1) := by rw [hw]; exact (Box2.new _ _ _).alloc _
  have X2 : Box2 w2 (w1.heap.size + 1) (.bool n2) (.slice A2 l2.length c2) := by
    rw [hw]
    have := Box2.new (w1.alloc (.cells #[.bool n1, .slice A1 l1.length c1] 24)) (.bool n2) (.slice A2 l2.length c2)
    rwa [World.size_alloc] at this
  have hb2 : Below w1.heap.size w1 w2 := by rw [hw]; exact ba (ba (b0 _) _) _
  rw [← hw]
  clear hw
  have bx := hbx.below hb2
  have q0 := X1.cell0
  have q1 := X1.cell1
  have q2 := X2.cell0
  have q3 := X2.cell1
  have x0 := bx.cell0
  have x1 := bx.cell1
  have f0 := bx.free 0
  have f1 := bx.free 1
  obtain ⟨k0, k1, k2⟩ := bx.back (.bool n2) (.slice A2 l2.length c2)
  go_wp2_with fail
  refine bodyPost_ret (v := .agg #[.bool n2, .slice A2 l2.length c2]) (by simp [results, Tryz.results96, go_sem, k0, k2]) rfl ?_
  exact riv_store (bt hK hb2) (by omega) bx (HI2.out.below hb2)
end Go.Proofs.YtgljdfblgpdaaaaGreatDoor
