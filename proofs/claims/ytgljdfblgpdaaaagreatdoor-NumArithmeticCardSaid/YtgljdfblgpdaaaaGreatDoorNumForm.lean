/- What functions return of integers that are not canonical, and of arguments that they refuse. -/
import Derived.Test.YtgljdfblgpdaaaaGreatDoorNumRootA
import Derived.Test.YtgljdfblgpdaaaaGreatDoorNumPowA
import Derived.Test.YtgljdfblgpdaaaaGreatDoorNumBezI
set_option linter.unusedSimpArgs false
set_option linter.unusedVariables false
namespace Go.Proofs.YtgljdfblgpdaaaaGreatDoor
open Go.RowKit

/-- A call of Bezout returned zeros and an error. -/
def BezE (er : Int) (w : World) (e : Ending) (w' : World) : Prop := e = .returned (.tuple #[.agg #[.bool false, .slice none 0 0], .agg #[.bool false, .slice none 0 0], .agg #[.bool false, .slice none 0 0], .int .i64 er]) ∧ Below w.heap.size w w'
/-- A call returned 0 and an error. -/
def ErrE (er : Int) (w : World) (e : Ending) (w' : World) : Prop := e = .returned (.tuple #[.agg #[.bool false, .slice none 0 0], .int .i64 er]) ∧ Below w.heap.size w w'

set_option maxRecDepth 100000 in
set_option maxHeartbeats 400000 in
theorem Bezout_form (w : World) (na nb : Bool) (A B : Option Addr) (c d : Nat) (l k : List Nat) (p q : Bool) (hl2 : l.length ≤ 1000000) (hk2 : k.length ≤ 1000000) (hl : WS w A l) (hk : WS w B k) (hp : isB na l = p) (hq : isB nb k = q) (hpq : (p && q) = false) :
    Calls Tryz.prog 15 #[.agg #[.bool na, .slice A l.length c], .agg #[.bool nb, .slice B k.length d]] w (BezE 3 w) := by
  have HP := Lib.hid hp
  have HQ := Lib.hid hq
  have HF := Lib.hid hpq
  obtain ⟨W1, hW1, hw1, x0, x1, x2, x3, x4⟩ := boxes5 w na nb A B l.length c k.length d
  clear hp hq hpq
  go_enter Tryz.func15, Tryz.ntmps15
  go_wp2_with fail
  rw [← hW1]
  clear hW1
  refine (both_any na nb A B _ c _ d l k p q _ rfl rfl (by omega) (by omega) (hl.below hw1) (hk.below hw1) HP.out HQ.out).mono ?_
  rintro e w1 ⟨rfl, hb⟩
  rw [HF.out]
  have hw1' := bt hw1 hb
  have y2 := x2.below hb
  have y3 := x3.below hb
  have y4 := x4.below hb
  have f20 := y2.free 0
  have f21 := y2.free 1
  have f30 := y3.free 0
  have f31 := y3.free 1
  have f40 := y4.free 0
  have f41 := y4.free 1
  have q20 := y2.cell0
  have q21 := y2.cell1
  have q30 := y3.cell0
  have q31 := y3.cell1
  have q40 := y4.cell0
  have q41 := y4.cell1
  go_wp2_with fail
  have z2 := box2_far (box2_far (((y2.set0 (.bool false)).set1 (.slice none 0 0))) (show w.heap.size + 1 + 1 ≠ w.heap.size + 1 + 1 + 1 by omega) (.bool false) (.slice none 0 0)) (show w.heap.size + 1 + 1 ≠ w.heap.size + 1 + 1 + 1 + 1 by omega) (.bool false) (.slice none 0 0)
  have z3 := box2_far (((box2_far y3 (show w.heap.size + 1 + 1 + 1 ≠ w.heap.size + 1 + 1 by omega) (.bool false) (.slice none 0 0)).set0 (.bool false)).set1 (.slice none 0 0)) (show w.heap.size + 1 + 1 + 1 ≠ w.heap.size + 1 + 1 + 1 + 1 by omega) (.bool false) (.slice none 0 0)
  have z4 := ((box2_far (box2_far y4 (show w.heap.size + 1 + 1 + 1 + 1 ≠ w.heap.size + 1 + 1 by omega) (.bool false) (.slice none 0 0)) (show w.heap.size + 1 + 1 + 1 + 1 ≠ w.heap.size + 1 + 1 + 1 by omega) (.bool false) (.slice none 0 0)).set0 (.bool false)).set1 (.slice none 0 0)
  have k20 := z2.cell0
  have k21 := z2.cell1
  have k30 := z3.cell0
  have k31 := z3.cell1
  have k40 := z4.cell0
  have k41 := z4.cell1
  refine bodyPost_ret (v := .tuple #[.agg #[.bool false, .slice none 0 0], .agg #[.bool false, .slice none 0 0], .agg #[.bool false, .slice none 0 0], .int .i64 3]) (by simp [results, Tryz.results15, go_sem, k20, k21, k30, k31, k40, k41]) rfl ?_
  exact ⟨rfl, b2 (b2 (b2 hw1' (by omega) _ _) (by omega) _ _) (by omega) _ _⟩

set_option maxRecDepth 100000 in
set_option maxHeartbeats 400000 in
theorem Sqrt_form (w : World) (neg : Bool) (A : Option Addr) (c : Nat) (l : List Nat) (hm : l.length ≤ 1000000) (hB : isB neg l = false) (hl : WS w A l) :
    Calls Tryz.prog 73 #[.agg #[.bool neg, .slice A l.length c]] w (ErrE 3 w) := by
  have HB := Lib.hid hB
  clear hB
  go_enter Tryz.func73, Tryz.ntmps73
  go_wp2_with fail
  refine (Is_any neg A _ c l _ rfl (by omega) (hl.below (ba (ba (b0 _) _) _))).mono ?_
  rintro e w1 ⟨rfl, hb⟩
  rw [HB.out]
  have hbx := (Box2.new (w.alloc (.cells #[.bool neg, .slice A l.length c] 24)) (.bool false) (.slice none 0 0)).below hb
  rw [World.size_alloc] at hbx
  have x0 := hbx.cell0
  have x1 := hbx.cell1
  have f0 := hbx.free 0
  have f1 := hbx.free 1
  obtain ⟨k0, k1, k2⟩ := hbx.back (.bool false) (.slice none 0 0)
  go_wp2_with fail
  refine bodyPost_ret (v := .tuple #[.agg #[.bool false, .slice none 0 0], .int .i64 3]) (by simp [results, Tryz.results73, go_sem, k0, k2]) rfl ?_
  exact ⟨rfl, b2 (bt (ba (ba (b0 _) _) _) hb) (by omega) _ _⟩

set_option maxRecDepth 100000 in
set_option maxHeartbeats 400000 in
theorem Sqrt_arg (w : World) (A : Option Addr) (c : Nat) (l : List Nat) (hm : l.length ≤ 1000000) (hB : isB true l = true) (hl : WS w A l) :
    Calls Tryz.prog 73 #[.agg #[.bool true, .slice A l.length c]] w (ErrE 1 w) := by
  have HB := Lib.hid hB
  clear hB
  go_enter Tryz.func73, Tryz.ntmps73
  go_wp2_with fail
  refine (Is_any true A _ c l _ rfl (by omega) (hl.below (ba (ba (b0 _) _) _))).mono ?_
  rintro e w1 ⟨rfl, hb⟩
  rw [HB.out]
  have hbx := (Box2.new (w.alloc (.cells #[.bool true, .slice A l.length c] 24)) (.bool false) (.slice none 0 0)).below hb
  rw [World.size_alloc] at hbx
  have hby := ((Box2.new w (.bool true) (.slice A l.length c)).alloc (.cells #[.bool false, .slice none 0 0] 24)).below hb
  have y0 := hby.cell0
  have y1 := hby.cell1
  have x0 := hbx.cell0
  have x1 := hbx.cell1
  have f0 := hbx.free 0
  have f1 := hbx.free 1
  obtain ⟨k0, k1, k2⟩ := hbx.back (.bool false) (.slice none 0 0)
  go_wp2_with fail
  refine bodyPost_ret (v := .tuple #[.agg #[.bool false, .slice none 0 0], .int .i64 1]) (by simp [results, Tryz.results73, go_sem, k0, k2]) rfl ?_
  exact ⟨rfl, b2 (bt (ba (ba (b0 _) _) _) hb) (by omega) _ _⟩

set_option maxRecDepth 100000 in
set_option maxHeartbeats 400000 in
theorem root_zero (A : Option Addr) (c : Nat) (w : World) :
    Calls Tryz.prog 128 #[.slice A 0 c] w fun e w' => e = .returned (.slice none 0 0) ∧ w = w' := by
  go_enter Tryz.func128, Tryz.ntmps128
  go_wp2_with fail
  go_ret
  exact ⟨rfl, rfl⟩

set_option maxRecDepth 100000 in
set_option maxHeartbeats 400000 in
theorem Sqrt_zero (w : World) (A : Option Addr) (c : Nat) :
    Calls Tryz.prog 73 #[.agg #[.bool false, .slice A 0 c]] w (ErrE 0 w) := by
  go_enter Tryz.func73, Tryz.ntmps73
  go_wp2_with fail
  refine (Is_any false A 0 c [] _ rfl (by omega) (WS.nil_ _ _)).mono ?_
  rintro e w1 ⟨rfl, hb⟩
  rw [show isB false [] = true from rfl]
  have hbx := (Box2.new (w.alloc (.cells #[.bool false, .slice A 0 c] 24)) (.bool false) (.slice none 0 0)).below hb
  rw [World.size_alloc] at hbx
  have hby := ((Box2.new w (.bool false) (.slice A 0 c)).alloc (.cells #[.bool false, .slice none 0 0] 24)).below hb
  have y0 := hby.cell0
  have y1 := hby.cell1
  go_wp2_with fail
  refine (root_zero A c w1).mono ?_
  rintro e w2 ⟨rfl, rfl⟩
  go_wp2_with fail
  refine (signed_any false none 0 0 w1 (by omega)).mono ?_
  rintro e w3 ⟨rfl, hb3⟩
  have hbx3 := hbx.below hb3
  have x0 := hbx3.cell0
  have x1 := hbx3.cell1
  have f0 := hbx3.free 0
  have f1 := hbx3.free 1
  obtain ⟨k0, k1, k2⟩ := hbx3.back (.bool false) (.slice none 0 0)
  go_wp2_with fail
  refine bodyPost_ret (v := .tuple #[.agg #[.bool false, .slice none 0 0], .int .i64 0]) (by simp [results, Tryz.results73, go_sem, k0, k2]) rfl ?_
  exact ⟨rfl, b2 (bt (bt (ba (ba (b0 _) _) _) hb) hb3) (by omega) _ _⟩

set_option maxRecDepth 100000 in
set_option maxHeartbeats 400000 in
theorem Pow_form (w : World) (neg : Bool) (A : Option Addr) (c : Nat) (l : List Nat) (n : Int) (hm : l.length ≤ 1000000) (hB : isB neg l = false) (hl : WS w A l) :
    Calls Tryz.prog 72 #[.agg #[.bool neg, .slice A l.length c], .int .i64 n] w (ErrE 3 w) := by
  have HB := Lib.hid hB
  clear hB
  go_enter Tryz.func72, Tryz.ntmps72
  go_wp2_with fail
  refine (Is_any neg A _ c l _ rfl (by omega) (hl.below (ba (ba (b0 _) _) _))).mono ?_
  rintro e w1 ⟨rfl, hb⟩
  rw [HB.out]
  have hbx := (Box2.new (w.alloc (.cells #[.bool neg, .slice A l.length c] 24)) (.bool false) (.slice none 0 0)).below hb
  rw [World.size_alloc] at hbx
  have x0 := hbx.cell0
  have x1 := hbx.cell1
  have f0 := hbx.free 0
  have f1 := hbx.free 1
  obtain ⟨k0, k1, k2⟩ := hbx.back (.bool false) (.slice none 0 0)
  go_wp2_with fail
  refine bodyPost_ret (v := .tuple #[.agg #[.bool false, .slice none 0 0], .int .i64 3]) (by simp [results, Tryz.results72, go_sem, k0, k2]) rfl ?_
  exact ⟨rfl, b2 (bt (ba (ba (b0 _) _) _) hb) (by omega) _ _⟩

set_option maxRecDepth 100000 in
set_option maxHeartbeats 400000 in
theorem Pow_arg (w : World) (neg : Bool) (A : Option Addr) (c : Nat) (l : List Nat) (n : Int) (hn : n < 0) (hm : l.length ≤ 1000000) (hB : isB neg l = true) (hl : WS w A l) :
    Calls Tryz.prog 72 #[.agg #[.bool neg, .slice A l.length c], .int .i64 n] w (ErrE 1 w) := by
  have HB := Lib.hid hB
  clear hB
  go_enter Tryz.func72, Tryz.ntmps72
  go_wp2_with fail
  refine (Is_any neg A _ c l _ rfl (by omega) (hl.below (ba (ba (b0 _) _) _))).mono ?_
  rintro e w1 ⟨rfl, hb⟩
  rw [HB.out]
  have hbx := (Box2.new (w.alloc (.cells #[.bool neg, .slice A l.length c] 24)) (.bool false) (.slice none 0 0)).below hb
  rw [World.size_alloc] at hbx
  have x0 := hbx.cell0
  have x1 := hbx.cell1
  have f0 := hbx.free 0
  have f1 := hbx.free 1
  obtain ⟨k0, k1, k2⟩ := hbx.back (.bool false) (.slice none 0 0)
  go_wp2_with fail
  refine bodyPost_ret (v := .tuple #[.agg #[.bool false, .slice none 0 0], .int .i64 1]) (by simp [results, Tryz.results72, go_sem, k0, k2]) rfl ?_
  exact ⟨rfl, b2 (bt (ba (ba (b0 _) _) _) hb) (by omega) _ _⟩
end Go.Proofs.YtgljdfblgpdaaaaGreatDoor
