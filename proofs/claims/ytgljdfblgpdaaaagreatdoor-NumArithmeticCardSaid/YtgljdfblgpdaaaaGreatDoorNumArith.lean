/- NumArithmetic: the specification's forms and Bezout with 0, both sides, the law's walk. -/
import Derived.Test.YtgljdfblgpdaaaaGreatDoorNumSpB
import Derived.Test.YtgljdfblgpdaaaaGreatDoorNumForm
import Derived.Deep.RegionLaw
import Derived.Test.YtgljdfblgpdaaaaGreatDoorNumSpJ
import Derived.Test.YtgljdfblgpdaaaaGreatDoorNumBzM
import Derived.Deep.DeepCutAuto
import Derived.Test.YtgljdfblgpdaaaaGreatDoorNumSpL
import Derived.Test.YtgljdfblgpdaaaaGreatDoorNumEx
import Derived.Deep.RegionHeld3
set_option linter.unusedSimpArgs false
set_option linter.unusedVariables false
/-! The specification: integers that are not canonical, and Div by 0. -/
namespace Go.Proofs.YtgljdfblgpdaaaaGreatDoor
open Go.RowKit Go.Shelf

theorem boxes3 (w : World) (na nb : Bool) (A B : Option Addr) (n c m d : Nat) : ∃ W, W = ((w.alloc (bx na A n c)).alloc (bx nb B m d)).alloc (bx false none 0 0) ∧ Below w.heap.size w W ∧
    Box2 W w.heap.size (.bool na) (.slice A n c) ∧ Box2 W (w.heap.size + 1) (.bool nb) (.slice B m d) ∧ Box2 W (w.heap.size + 1 + 1) (.bool false) (.slice none 0 0) := by
  refine ⟨_, rfl, ba (ba (ba (b0 _) _) _) _, ((Box2.new w _ _).alloc _).alloc _, ?_, ?_⟩
  · have h := (Box2.new (w.alloc (bx na A n c)) (.bool nb) (.slice B m d)).alloc (bx false none 0 0)
    rw [World.size_alloc] at h; exact h
  · have h := Box2.new ((w.alloc (bx na A n c)).alloc (bx nb B m d)) (.bool false) (.slice none 0 0)
    rw [World.size_alloc, World.size_alloc] at h; exact h


set_option maxRecDepth 100000 in
set_option maxHeartbeats 1000000 in
theorem RAdd_form (w : World) (na nb : Bool) (A B : Option Addr) (c d : Nat) (l k : List Nat) (p q : Bool) (hl2 : l.length ≤ 1000000) (hk2 : k.length ≤ 1000000) (hl : WS w A l) (hk : WS w B k) (hp : isB na l = p) (hq : isB nb k = q) (hpq : (p && q) = false) :
    Calls Tryz.prog 19 #[.agg #[.bool na, .slice A l.length c], .agg #[.bool nb, .slice B k.length d]] w (fun e w' => e = .returned (.agg #[.bool false, .slice none 0 0]) ∧ Below w.heap.size w w') := by
  have HP := Lib.hid hp
  have HQ := Lib.hid hq
  obtain ⟨W1, hW1, hw1, x0, x1, x2⟩ := boxes3 w na nb A B l.length c k.length d
  clear hp hq
  go_enter Tryz.func19, Tryz.ntmps19
  go_wp2_with fail
  rw [← hW1]
  clear hW1
  refine (RIs_any na A _ c l _ rfl (by omega) (hl.below hw1)).mono ?_
  rintro e w1 ⟨rfl, hb⟩
  rw [HP.out]
  have s0 := (x1.below hb).cell0
  have s1 := (x1.below hb).cell1
  cases p
  case false =>
    clear s0 s1
    have y2 := x2.below hb
    have f20 := y2.free 0
    have f21 := y2.free 1
    have q20 := y2.cell0
    have q21 := y2.cell1
    go_wp2_with fail
    have z2 := (((y2).set0 (.bool false)).set1 (.slice none 0 0))
    have k20 := z2.cell0
    have k21 := z2.cell1
    refine bodyPost_ret (v := .agg #[.bool false, .slice none 0 0]) (by simp [results, Tryz.results19, go_sem, k20, k21]) rfl ?_
    exact ⟨rfl, (b2 (bt hw1 hb) (by omega) _ _)⟩
  case true =>
    have hqf : q = false := by simpa using hpq
    subst hqf
    go_wp2_with fail
    refine (RIs_any nb B _ d k _ rfl (by omega) (hk.below (bt hw1 hb))).mono ?_
    rintro e w2 ⟨rfl, hb2⟩
    rw [HQ.out]
    have hb3 := (show Below W1.heap.size W1 w2 from bt hb hb2)
    clear s0 s1
    have y2 := x2.below hb3
    have f20 := y2.free 0
    have f21 := y2.free 1
    have q20 := y2.cell0
    have q21 := y2.cell1
    go_wp2_with fail
    have z2 := (((y2).set0 (.bool false)).set1 (.slice none 0 0))
    have k20 := z2.cell0
    have k21 := z2.cell1
    refine bodyPost_ret (v := .agg #[.bool false, .slice none 0 0]) (by simp [results, Tryz.results19, go_sem, k20, k21]) rfl ?_
    exact ⟨rfl, (b2 (bt hw1 hb3) (by omega) _ _)⟩

set_option maxRecDepth 100000 in
set_option maxHeartbeats 1000000 in
theorem RSub_form (w : World) (na nb : Bool) (A B : Option Addr) (c d : Nat) (l k : List Nat) (p q : Bool) (hl2 : l.length ≤ 1000000) (hk2 : k.length ≤ 1000000) (hl : WS w A l) (hk : WS w B k) (hp : isB na l = p) (hq : isB nb k = q) (hpq : (p && q) = false) :
    Calls Tryz.prog 21 #[.agg #[.bool na, .slice A l.length c], .agg #[.bool nb, .slice B k.length d]] w (fun e w' => e = .returned (.agg #[.bool false, .slice none 0 0]) ∧ Below w.heap.size w w') := by
  have HP := Lib.hid hp
  have HQ := Lib.hid hq
  obtain ⟨W1, hW1, hw1, x0, x1, x2⟩ := boxes3 w na nb A B l.length c k.length d
  clear hp hq
  go_enter Tryz.func21, Tryz.ntmps21
  go_wp2_with fail
  rw [← hW1]
  clear hW1
  refine (RIs_any na A _ c l _ rfl (by omega) (hl.below hw1)).mono ?_
  rintro e w1 ⟨rfl, hb⟩
  rw [HP.out]
  have s0 := (x1.below hb).cell0
  have s1 := (x1.below hb).cell1
  cases p
  case false =>
    clear s0 s1
    have y2 := x2.below hb
    have f20 := y2.free 0
    have f21 := y2.free 1
    have q20 := y2.cell0
    have q21 := y2.cell1
    go_wp2_with fail
    have z2 := (((y2).set0 (.bool false)).set1 (.slice none 0 0))
    have k20 := z2.cell0
    have k21 := z2.cell1
    refine bodyPost_ret (v := .agg #[.bool false, .slice none 0 0]) (by simp [results, Tryz.results21, go_sem, k20, k21]) rfl ?_
    exact ⟨rfl, (b2 (bt hw1 hb) (by omega) _ _)⟩
  case true =>
    have hqf : q = false := by simpa using hpq
    subst hqf
    go_wp2_with fail
    refine (RIs_any nb B _ d k _ rfl (by omega) (hk.below (bt hw1 hb))).mono ?_
    rintro e w2 ⟨rfl, hb2⟩
    rw [HQ.out]
    have hb3 := (show Below W1.heap.size W1 w2 from bt hb hb2)
    clear s0 s1
    have y2 := x2.below hb3
    have f20 := y2.free 0
    have f21 := y2.free 1
    have q20 := y2.cell0
    have q21 := y2.cell1
    go_wp2_with fail
    have z2 := (((y2).set0 (.bool false)).set1 (.slice none 0 0))
    have k20 := z2.cell0
    have k21 := z2.cell1
    refine bodyPost_ret (v := .agg #[.bool false, .slice none 0 0]) (by simp [results, Tryz.results21, go_sem, k20, k21]) rfl ?_
    exact ⟨rfl, (b2 (bt hw1 hb3) (by omega) _ _)⟩

set_option maxRecDepth 100000 in
set_option maxHeartbeats 1000000 in
theorem RMul_form (w : World) (na nb : Bool) (A B : Option Addr) (c d : Nat) (l k : List Nat) (p q : Bool) (hl2 : l.length ≤ 1000000) (hk2 : k.length ≤ 1000000) (hl : WS w A l) (hk : WS w B k) (hp : isB na l = p) (hq : isB nb k = q) (hpq : (p && q) = false) :
    Calls Tryz.prog 23 #[.agg #[.bool na, .slice A l.length c], .agg #[.bool nb, .slice B k.length d]] w (fun e w' => e = .returned (.agg #[.bool false, .slice none 0 0]) ∧ Below w.heap.size w w') := by
  have HP := Lib.hid hp
  have HQ := Lib.hid hq
  obtain ⟨W1, hW1, hw1, x0, x1, x2⟩ := boxes3 w na nb A B l.length c k.length d
  clear hp hq
  go_enter Tryz.func23, Tryz.ntmps23
  go_wp2_with fail
  rw [← hW1]
  clear hW1
  refine (RIs_any na A _ c l _ rfl (by omega) (hl.below hw1)).mono ?_
  rintro e w1 ⟨rfl, hb⟩
  rw [HP.out]
  have s0 := (x1.below hb).cell0
  have s1 := (x1.below hb).cell1
  cases p
  case false =>
    clear s0 s1
    have y2 := x2.below hb
    have f20 := y2.free 0
    have f21 := y2.free 1
    have q20 := y2.cell0
    have q21 := y2.cell1
    go_wp2_with fail
    have z2 := (((y2).set0 (.bool false)).set1 (.slice none 0 0))
    have k20 := z2.cell0
    have k21 := z2.cell1
    refine bodyPost_ret (v := .agg #[.bool false, .slice none 0 0]) (by simp [results, Tryz.results23, go_sem, k20, k21]) rfl ?_
    exact ⟨rfl, (b2 (bt hw1 hb) (by omega) _ _)⟩
  case true =>
    have hqf : q = false := by simpa using hpq
    subst hqf
    go_wp2_with fail
    refine (RIs_any nb B _ d k _ rfl (by omega) (hk.below (bt hw1 hb))).mono ?_
    rintro e w2 ⟨rfl, hb2⟩
    rw [HQ.out]
    have hb3 := (show Below W1.heap.size W1 w2 from bt hb hb2)
    clear s0 s1
    have y2 := x2.below hb3
    have f20 := y2.free 0
    have f21 := y2.free 1
    have q20 := y2.cell0
    have q21 := y2.cell1
    go_wp2_with fail
    have z2 := (((y2).set0 (.bool false)).set1 (.slice none 0 0))
    have k20 := z2.cell0
    have k21 := z2.cell1
    refine bodyPost_ret (v := .agg #[.bool false, .slice none 0 0]) (by simp [results, Tryz.results23, go_sem, k20, k21]) rfl ?_
    exact ⟨rfl, (b2 (bt hw1 hb3) (by omega) _ _)⟩

set_option maxRecDepth 100000 in
set_option maxHeartbeats 1000000 in
theorem RGcd_form (w : World) (na nb : Bool) (A B : Option Addr) (c d : Nat) (l k : List Nat) (p q : Bool) (hl2 : l.length ≤ 1000000) (hk2 : k.length ≤ 1000000) (hl : WS w A l) (hk : WS w B k) (hp : isB na l = p) (hq : isB nb k = q) (hpq : (p && q) = false) :
    Calls Tryz.prog 25 #[.agg #[.bool na, .slice A l.length c], .agg #[.bool nb, .slice B k.length d]] w (fun e w' => e = .returned (.agg #[.bool false, .slice none 0 0]) ∧ Below w.heap.size w w') := by
  have HP := Lib.hid hp
  have HQ := Lib.hid hq
  obtain ⟨W1, hW1, hw1, x0, x1, x2⟩ := boxes3 w na nb A B l.length c k.length d
  clear hp hq
  go_enter Tryz.func25, Tryz.ntmps25
  go_wp2_with fail
  rw [← hW1]
  clear hW1
  refine (RIs_any na A _ c l _ rfl (by omega) (hl.below hw1)).mono ?_
  rintro e w1 ⟨rfl, hb⟩
  rw [HP.out]
  have s0 := (x1.below hb).cell0
  have s1 := (x1.below hb).cell1
  cases p
  case false =>
    clear s0 s1
    have y2 := x2.below hb
    have f20 := y2.free 0
    have f21 := y2.free 1
    have q20 := y2.cell0
    have q21 := y2.cell1
    go_wp2_with fail
    have z2 := (((y2).set0 (.bool false)).set1 (.slice none 0 0))
    have k20 := z2.cell0
    have k21 := z2.cell1
    refine bodyPost_ret (v := .agg #[.bool false, .slice none 0 0]) (by simp [results, Tryz.results25, go_sem, k20, k21]) rfl ?_
    exact ⟨rfl, (b2 (bt hw1 hb) (by omega) _ _)⟩
  case true =>
    have hqf : q = false := by simpa using hpq
    subst hqf
    go_wp2_with fail
    refine (RIs_any nb B _ d k _ rfl (by omega) (hk.below (bt hw1 hb))).mono ?_
    rintro e w2 ⟨rfl, hb2⟩
    rw [HQ.out]
    have hb3 := (show Below W1.heap.size W1 w2 from bt hb hb2)
    clear s0 s1
    have y2 := x2.below hb3
    have f20 := y2.free 0
    have f21 := y2.free 1
    have q20 := y2.cell0
    have q21 := y2.cell1
    go_wp2_with fail
    have z2 := (((y2).set0 (.bool false)).set1 (.slice none 0 0))
    have k20 := z2.cell0
    have k21 := z2.cell1
    refine bodyPost_ret (v := .agg #[.bool false, .slice none 0 0]) (by simp [results, Tryz.results25, go_sem, k20, k21]) rfl ?_
    exact ⟨rfl, (b2 (bt hw1 hb3) (by omega) _ _)⟩

set_option maxRecDepth 100000 in
set_option maxHeartbeats 1000000 in
theorem RDiv_form (w : World) (na nb : Bool) (A B : Option Addr) (c d : Nat) (l k : List Nat) (p q : Bool) (hl2 : l.length ≤ 1000000) (hk2 : k.length ≤ 1000000) (hl : WS w A l) (hk : WS w B k) (hp : isB na l = p) (hq : isB nb k = q) (hpq : (p && q) = false) :
    Calls Tryz.prog 14 #[.agg #[.bool na, .slice A l.length c], .agg #[.bool nb, .slice B k.length d]] w (DivE 3 w) := by
  have HP := Lib.hid hp
  have HQ := Lib.hid hq
  obtain ⟨W1, hW1, hw1, x0, x1, x2, x3⟩ := boxes4 w na nb A B l.length c k.length d
  clear hp hq
  go_enter Tryz.func14, Tryz.ntmps14
  go_wp2_with fail
  rw [← hW1]
  clear hW1
  refine (RIs_any na A _ c l _ rfl (by omega) (hl.below hw1)).mono ?_
  rintro e w1 ⟨rfl, hb⟩
  rw [HP.out]
  have s0 := (x1.below hb).cell0
  have s1 := (x1.below hb).cell1
  cases p
  case false =>
    clear s0 s1
    have y2 := x2.below hb
    have f20 := y2.free 0
    have f21 := y2.free 1
    have q20 := y2.cell0
    have q21 := y2.cell1
    have y3 := x3.below hb
    have f30 := y3.free 0
    have f31 := y3.free 1
    have q30 := y3.cell0
    have q31 := y3.cell1
    go_wp2_with fail
    go_region_law fail
    all_goals
      go_wp2_with fail
      have z2 := (box2_far (((y2).set0 (.bool false)).set1 (.slice none 0 0)) (show w.heap.size + 1 + 1 ≠ w.heap.size + 1 + 1 + 1 by omega) (.bool false) (.slice none 0 0))
      have k20 := z2.cell0
      have k21 := z2.cell1
      have z3 := ((((box2_far y3 (show w.heap.size + 1 + 1 + 1 ≠ w.heap.size + 1 + 1 by omega) (.bool false) (.slice none 0 0))).set0 (.bool false)).set1 (.slice none 0 0))
      have k30 := z3.cell0
      have k31 := z3.cell1
      refine bodyPost_ret (v := .tuple #[.agg #[.bool false, .slice none 0 0], .agg #[.bool false, .slice none 0 0], .int .i64 3]) (by simp [results, Tryz.results14, go_sem, k20, k21, k30, k31]) rfl ?_
      first | exact ⟨rfl, bw (b2 (b2 (bt hw1 hb) (by omega) _ _) (by omega) _ _)⟩ | exact ⟨rfl, (b2 (b2 (bt hw1 hb) (by omega) _ _) (by omega) _ _)⟩
  case true =>
    have hqf : q = false := by simpa using hpq
    subst hqf
    go_wp2_with fail
    refine (RIs_any nb B _ d k _ rfl (by omega) (hk.below (bt hw1 hb))).mono ?_
    rintro e w2 ⟨rfl, hb2⟩
    rw [HQ.out]
    have hb3 := (show Below W1.heap.size W1 w2 from bt hb hb2)
    clear s0 s1
    have y2 := x2.below hb3
    have f20 := y2.free 0
    have f21 := y2.free 1
    have q20 := y2.cell0
    have q21 := y2.cell1
    have y3 := x3.below hb3
    have f30 := y3.free 0
    have f31 := y3.free 1
    have q30 := y3.cell0
    have q31 := y3.cell1
    go_wp2_with fail
    go_region_law fail
    all_goals
      go_wp2_with fail
      have z2 := (box2_far (((y2).set0 (.bool false)).set1 (.slice none 0 0)) (show w.heap.size + 1 + 1 ≠ w.heap.size + 1 + 1 + 1 by omega) (.bool false) (.slice none 0 0))
      have k20 := z2.cell0
      have k21 := z2.cell1
      have z3 := ((((box2_far y3 (show w.heap.size + 1 + 1 + 1 ≠ w.heap.size + 1 + 1 by omega) (.bool false) (.slice none 0 0))).set0 (.bool false)).set1 (.slice none 0 0))
      have k30 := z3.cell0
      have k31 := z3.cell1
      refine bodyPost_ret (v := .tuple #[.agg #[.bool false, .slice none 0 0], .agg #[.bool false, .slice none 0 0], .int .i64 3]) (by simp [results, Tryz.results14, go_sem, k20, k21, k30, k31]) rfl ?_
      first | exact ⟨rfl, bw (b2 (b2 (bt hw1 hb3) (by omega) _ _) (by omega) _ _)⟩ | exact ⟨rfl, (b2 (b2 (bt hw1 hb3) (by omega) _ _) (by omega) _ _)⟩

set_option maxRecDepth 100000 in
set_option maxHeartbeats 8000000 in
theorem RBezout_form (w : World) (na nb : Bool) (A B : Option Addr) (c d : Nat) (l k : List Nat) (p q : Bool) (hl2 : l.length ≤ 1000000) (hk2 : k.length ≤ 1000000) (hl : WS w A l) (hk : WS w B k) (hp : isB na l = p) (hq : isB nb k = q) (hpq : (p && q) = false) :
    Calls Tryz.prog 16 #[.agg #[.bool na, .slice A l.length c], .agg #[.bool nb, .slice B k.length d]] w (BezE 3 w) := by
  have HP := Lib.hid hp
  have HQ := Lib.hid hq
  obtain ⟨W1, hW1, hw1, x0, x1, x2, x3, x4⟩ := boxes5 w na nb A B l.length c k.length d
  clear hp hq
  go_enter Tryz.func16, Tryz.ntmps16
  go_wp2_with fail
  rw [← hW1]
  clear hW1
  refine (RIs_any na A _ c l _ rfl (by omega) (hl.below hw1)).mono ?_
  rintro e w1 ⟨rfl, hb⟩
  rw [HP.out]
  have s0 := (x1.below hb).cell0
  have s1 := (x1.below hb).cell1
  cases p
  case false =>
    clear s0 s1
    have y2 := x2.below hb
    have f20 := y2.free 0
    have f21 := y2.free 1
    have q20 := y2.cell0
    have q21 := y2.cell1
    have y3 := x3.below hb
    have f30 := y3.free 0
    have f31 := y3.free 1
    have q30 := y3.cell0
    have q31 := y3.cell1
    have y4 := x4.below hb
    have f40 := y4.free 0
    have f41 := y4.free 1
    have q40 := y4.cell0
    have q41 := y4.cell1
    go_wp2_with fail
    go_region_law fail
    all_goals
      go_wp2_with fail
      have z2 := (box2_far (box2_far (((y2).set0 (.bool false)).set1 (.slice none 0 0)) (show w.heap.size + 1 + 1 ≠ w.heap.size + 1 + 1 + 1 by omega) (.bool false) (.slice none 0 0)) (show w.heap.size + 1 + 1 ≠ w.heap.size + 1 + 1 + 1 + 1 by omega) (.bool false) (.slice none 0 0))
      have k20 := z2.cell0
      have k21 := z2.cell1
      have z3 := (box2_far ((((box2_far y3 (show w.heap.size + 1 + 1 + 1 ≠ w.heap.size + 1 + 1 by omega) (.bool false) (.slice none 0 0))).set0 (.bool false)).set1 (.slice none 0 0)) (show w.heap.size + 1 + 1 + 1 ≠ w.heap.size + 1 + 1 + 1 + 1 by omega) (.bool false) (.slice none 0 0))
      have k30 := z3.cell0
      have k31 := z3.cell1
      have z4 := ((((box2_far (box2_far y4 (show w.heap.size + 1 + 1 + 1 + 1 ≠ w.heap.size + 1 + 1 by omega) (.bool false) (.slice none 0 0)) (show w.heap.size + 1 + 1 + 1 + 1 ≠ w.heap.size + 1 + 1 + 1 by omega) (.bool false) (.slice none 0 0))).set0 (.bool false)).set1 (.slice none 0 0))
      have k40 := z4.cell0
      have k41 := z4.cell1
      refine bodyPost_ret (v := .tuple #[.agg #[.bool false, .slice none 0 0], .agg #[.bool false, .slice none 0 0], .agg #[.bool false, .slice none 0 0], .int .i64 3]) (by simp [results, Tryz.results16, go_sem, k20, k21, k30, k31, k40, k41]) rfl ?_
      first | exact ⟨rfl, bw (b2 (b2 (b2 (bt hw1 hb) (by omega) _ _) (by omega) _ _) (by omega) _ _)⟩ | exact ⟨rfl, (b2 (b2 (b2 (bt hw1 hb) (by omega) _ _) (by omega) _ _) (by omega) _ _)⟩
  case true =>
    have hqf : q = false := by simpa using hpq
    subst hqf
    go_wp2_with fail
    refine (RIs_any nb B _ d k _ rfl (by omega) (hk.below (bt hw1 hb))).mono ?_
    rintro e w2 ⟨rfl, hb2⟩
    rw [HQ.out]
    have hb3 := (show Below W1.heap.size W1 w2 from bt hb hb2)
    clear s0 s1
    have y2 := x2.below hb3
    have f20 := y2.free 0
    have f21 := y2.free 1
    have q20 := y2.cell0
    have q21 := y2.cell1
    have y3 := x3.below hb3
    have f30 := y3.free 0
    have f31 := y3.free 1
    have q30 := y3.cell0
    have q31 := y3.cell1
    have y4 := x4.below hb3
    have f40 := y4.free 0
    have f41 := y4.free 1
    have q40 := y4.cell0
    have q41 := y4.cell1
    go_wp2_with fail
    go_region_law fail
    all_goals
      go_wp2_with fail
      have z2 := (box2_far (box2_far (((y2).set0 (.bool false)).set1 (.slice none 0 0)) (show w.heap.size + 1 + 1 ≠ w.heap.size + 1 + 1 + 1 by omega) (.bool false) (.slice none 0 0)) (show w.heap.size + 1 + 1 ≠ w.heap.size + 1 + 1 + 1 + 1 by omega) (.bool false) (.slice none 0 0))
      have k20 := z2.cell0
      have k21 := z2.cell1
      have z3 := (box2_far ((((box2_far y3 (show w.heap.size + 1 + 1 + 1 ≠ w.heap.size + 1 + 1 by omega) (.bool false) (.slice none 0 0))).set0 (.bool false)).set1 (.slice none 0 0)) (show w.heap.size + 1 + 1 + 1 ≠ w.heap.size + 1 + 1 + 1 + 1 by omega) (.bool false) (.slice none 0 0))
      have k30 := z3.cell0
      have k31 := z3.cell1
      have z4 := ((((box2_far (box2_far y4 (show w.heap.size + 1 + 1 + 1 + 1 ≠ w.heap.size + 1 + 1 by omega) (.bool false) (.slice none 0 0)) (show w.heap.size + 1 + 1 + 1 + 1 ≠ w.heap.size + 1 + 1 + 1 by omega) (.bool false) (.slice none 0 0))).set0 (.bool false)).set1 (.slice none 0 0))
      have k40 := z4.cell0
      have k41 := z4.cell1
      refine bodyPost_ret (v := .tuple #[.agg #[.bool false, .slice none 0 0], .agg #[.bool false, .slice none 0 0], .agg #[.bool false, .slice none 0 0], .int .i64 3]) (by simp [results, Tryz.results16, go_sem, k20, k21, k30, k31, k40, k41]) rfl ?_
      first | exact ⟨rfl, bw (b2 (b2 (b2 (bt hw1 hb3) (by omega) _ _) (by omega) _ _) (by omega) _ _)⟩ | exact ⟨rfl, (b2 (b2 (b2 (bt hw1 hb3) (by omega) _ _) (by omega) _ _) (by omega) _ _)⟩

set_option maxRecDepth 100000 in
set_option maxHeartbeats 1000000 in
theorem RDiv_zero (w : World) (na nb : Bool) (A B : Option Addr) (c d : Nat) (l k : List Nat) (hl2 : l.length ≤ 1000000) (hk2 : k.length ≤ 1000000) (hl : WS w A l) (hk : WS w B k) (hp : isB na l = true) (hq : isB nb k = true) (h0 : k.length = 0) :
    Calls Tryz.prog 14 #[.agg #[.bool na, .slice A l.length c], .agg #[.bool nb, .slice B k.length d]] w (DivE 5 w) := by
  have HP := Lib.hid hp
  have HQ := Lib.hid hq
  have hkz : ((k.length : Int) == 0) = true := by simp [h0]
  have HK := Lib.hid h0
  obtain ⟨W1, hW1, hw1, x0, x1, x2, x3⟩ := boxes4 w na nb A B l.length c k.length d
  clear hp hq h0
  go_enter Tryz.func14, Tryz.ntmps14
  go_wp2_with fail
  rw [← hW1]
  clear hW1
  refine (RIs_any na A _ c l _ rfl (by omega) (hl.below hw1)).mono ?_
  rintro e w1 ⟨rfl, hb⟩
  rw [HP.out]
  have s0 := (x1.below hb).cell0
  have s1 := (x1.below hb).cell1
  go_wp2_with fail
  refine (RIs_any nb B _ d k _ rfl (by omega) (hk.below (bt hw1 hb))).mono ?_
  rintro e w2 ⟨rfl, hb2⟩
  rw [HQ.out]
  have hb3 := (show Below W1.heap.size W1 w2 from bt hb hb2)
  clear s0 s1
  have s0 := (x1.below hb3).cell0
  have s1 := (x1.below hb3).cell1
  have y2 := x2.below hb3
  have f20 := y2.free 0
  have f21 := y2.free 1
  have q20 := y2.cell0
  have q21 := y2.cell1
  have y3 := x3.below hb3
  have f30 := y3.free 0
  have f31 := y3.free 1
  have q30 := y3.cell0
  have q31 := y3.cell1
  go_wp2_with fail
  go_region_law fail
  all_goals
    go_wp2_with fail
    have z2 := (box2_far (((y2).set0 (.bool false)).set1 (.slice none 0 0)) (show w.heap.size + 1 + 1 ≠ w.heap.size + 1 + 1 + 1 by omega) (.bool false) (.slice none 0 0))
    have k20 := z2.cell0
    have k21 := z2.cell1
    have z3 := ((((box2_far y3 (show w.heap.size + 1 + 1 + 1 ≠ w.heap.size + 1 + 1 by omega) (.bool false) (.slice none 0 0))).set0 (.bool false)).set1 (.slice none 0 0))
    have k30 := z3.cell0
    have k31 := z3.cell1
    refine bodyPost_ret (v := .tuple #[.agg #[.bool false, .slice none 0 0], .agg #[.bool false, .slice none 0 0], .int .i64 5]) (by simp [results, Tryz.results14, go_sem, k20, k21, k30, k31]) rfl ?_
    first | exact ⟨rfl, bw (b2 (b2 (bt hw1 hb3) (by omega) _ _) (by omega) _ _)⟩ | exact ⟨rfl, (b2 (b2 (bt hw1 hb3) (by omega) _ _) (by omega) _ _)⟩
end Go.Proofs.YtgljdfblgpdaaaaGreatDoor

/-! The specification by value: Bezout with 0. -/
namespace Go.Proofs.YtgljdfblgpdaaaaGreatDoor
open Go.RowKit Go.Shelf

/-- A call returned three integers and an error. -/
def BZ (g u v er : Int) (W : World) (e : Ending) (w' : World) : Prop :=
  ∃ n1 A1 c1 l1 n2 A2 c2 l2 n3 A3 c3 l3, e = .returned (.tuple #[.agg #[.bool n1, .slice A1 l1.length c1], .agg #[.bool n2, .slice A2 l2.length c2], .agg #[.bool n3, .slice A3 l3.length c3], .int .i64 er]) ∧
    IV w' n1 A1 c1 l1 g ∧ IV w' n2 A2 c2 l2 u ∧ IV w' n3 A3 c3 l3 v ∧ Below W.heap.size W w'
/-- What lies in Bezout's boxes where b is 0. -/
structure BzZ (w W : World) (na n3 : Bool) (A A3 : Option Addr) (ca c3 : Nat) (la l3 : List Nat) (gv : Int) : Prop where
  a : Box2 W w.heap.size (.bool na) (.slice A la.length ca)
  g : Box2 W (w.heap.size + 1 + 1) (.bool n3) (.slice A3 l3.length c3)
  u : Box2 W (w.heap.size + 1 + 1 + 1) (.bool false) (.slice none 0 0)
  v : Box2 W (w.heap.size + 1 + 1 + 1 + 1) (.bool false) (.slice none 0 0)
  ig : IV W n3 A3 c3 l3 gv
  k : Below w.heap.size w W
section
variable {w W W' : World} {na n3 : Bool} {A A3 : Option Addr} {ca c3 : Nat} {la l3 : List Nat} {g : Int}
theorem BzZ.below (h : BzZ w W na n3 A A3 ca c3 la l3 g) (hb : Below W.heap.size W W') : BzZ w W' na n3 A A3 ca c3 la l3 g :=
  ⟨h.a.below hb, h.g.below hb, h.u.below hb, h.v.below hb, h.ig.below hb, bt h.k hb⟩
theorem BzZ.cells (h : BzZ w W na n3 A A3 ca c3 la l3 g) : W.cell? ⟨w.heap.size + 1 + 1, 0, none⟩ = some (.bool n3) ∧ W.cell? ⟨w.heap.size + 1 + 1, 1, none⟩ = some (.slice A3 l3.length c3) ∧ W.cell? ⟨w.heap.size, 0, none⟩ = some (.bool na) ∧ W.cell? ⟨w.heap.size, 1, none⟩ = some (.slice A la.length ca) :=
  ⟨h.g.cell0, h.g.cell1, h.a.cell0, h.a.cell1⟩
theorem BzZ.set_g (h : BzZ w W na n3 A A3 ca c3 la l3 g) : BzZ w ((W.setCell ⟨w.heap.size + 1 + 1, 0, none⟩ (.bool n3)).setCell ⟨w.heap.size + 1 + 1, 1, none⟩ (.slice A3 l3.length c3)) na n3 A A3 ca c3 la l3 g :=
  ⟨h.a.far (by omega) _ _, h.g.stored _ _, h.u.far (by omega) _ _, h.v.far (by omega) _ _, h.ig.two h.g _ _, b2 h.k (by omega) _ _⟩
end

set_option maxRecDepth 100000 in
set_option maxHeartbeats 1500000 in
theorem RBez_zero {w : World} {na nb : Bool} {A B : Option Addr} {ca cb : Nat} {la lb : List Nat} {x y : Int} (ia : IV w na A ca la x) (ib : IV w nb B cb lb y) (hx : Lt 50 x) (hy0 : y = 0) :
    Calls Tryz.prog 16 #[.agg #[.bool na, .slice A la.length ca], .agg #[.bool nb, .slice B lb.length cb]] w (BZ ((x.natAbs : Nat) : Int) (cmpI x 0) 0 0 w) := by
  have ea := ia.len
  have eb := ib.len
  have hy : Lt 50 y := by rw [hy0]; exact lt_zero _
  have hg0 : Lt 50 ((Nat.gcd x.natAbs y.natAbs : Nat) : Int) := lt_gcd hx hy
  obtain ⟨g, hg⟩ : ∃ g, g = ((Nat.gcd x.natAbs y.natAbs : Nat) : Int) := ⟨_, rfl⟩
  rw [← hg] at hg0
  have HX := Lib.hid hx
  have HY := Lib.hid hy
  have HG := Lib.hid hg0
  have HGE := Lib.hid hg
  have HY0 := Lib.hid hy0
  have hlb0 : lb.length = 0 := (zI_zero ib.can).1 (by rw [ib.val]; exact hy0)
  have hlz : ((lb.length : Int) == 0) = true := by rw [hlb0]; rfl
  have HIA := Lib.hid ia
  have HIB := Lib.hid ib
  obtain ⟨W1, hW1, hw1, x0, x1, x2, x3, x4⟩ := boxes5 w na nb A B la.length ca lb.length cb
  clear hx hy hg hg0 hy0 ia ib hlb0
  go_enter Tryz.func16, Tryz.ntmps16
  go_wp2_with fail
  rw [← hW1]
  clear hW1
  refine (RIs_iv (HIA.out.below hw1)).mono ?_
  rintro e w1 ⟨rfl, hb1⟩
  have s0 := (x1.below hb1).cell0
  have s1 := (x1.below hb1).cell1
  go_wp2_with fail
  refine (RIs_iv (HIB.out.below (bt hw1 hb1))).mono ?_
  rintro e w2 ⟨rfl, hb2⟩
  clear s0 s1
  have hb12 := (show Below W1.heap.size W1 w2 from bt hb1 hb2)
  have hw2 := bt hw1 hb12
  replace x0 := x0.below hb12
  replace x1 := x1.below hb12
  replace x2 := x2.below hb12
  replace x3 := x3.below hb12
  replace x4 := x4.below hb12
  clear hb1 hb2 hb12 hw1 W1 w1
  have s0 := x0.cell0
  have s1 := x0.cell1
  have s2 := x1.cell0
  have s3 := x1.cell1
  go_wp2_with fail
  refine (RGcd_iv (HIA.out.below hw2) (HIB.out.below hw2) HGE.out.symm (lt_le HG.out (by decide))).mono ?_
  rintro e w3 ⟨n3, A3, c3, l3, rfl, i3, hb3⟩
  replace x0 := x0.below hb3
  replace x1 := x1.below hb3
  replace x2 := x2.below hb3
  replace x3 := x3.below hb3
  replace x4 := x4.below hb3
  have hw3 := bt hw2 hb3
  clear s0 s1 s2 s3 hb3 hw2 w2
  have f0 := x2.free 0
  have f1 := x2.free 1
  have g0 := x2.cell0
  have g1 := x2.cell1
  have s2 := x1.cell0
  have s3 := x1.cell1
  have s4 := (x1.far (show w.heap.size + 1 ≠ w.heap.size + 1 + 1 by omega) (.bool n3) (.slice A3 l3.length c3)).cell1
  have hxv : x.natAbs = val la := by
    rw [← HIA.out.val]; unfold zI; split <;> simp
  obtain ⟨sg, hsg⟩ : ∃ s, s = cmpI x 0 := ⟨_, rfl⟩
  have hsb : -1 ≤ sg ∧ sg ≤ 1 := by rcases cmpI_three x 0 with h | h | h <;> omega
  have HSG : Hid (sgn true na la = sg) := Lib.hid (by rw [sgn_eq HIA.out.can, HIA.out.val, hsg])
  have HGX : Hid (g = ((x.natAbs : Nat) : Int)) := Lib.hid (by rw [HGE.out, HY0.out, Int.natAbs_zero, Nat.gcd_zero_right])
  have HSE := Lib.hid hsg
  clear hsg hxv
  go_wp2_with fail
  obtain ⟨w1, hw1⟩ : ∃ W, W = (w3.setCell ⟨w.heap.size + 1 + 1, 0, none⟩ (.bool n3)).setCell ⟨w.heap.size + 1 + 1, 1, none⟩ (.slice A3 l3.length c3) := ⟨_, rfl⟩
  rw [← hw1]
  have HR1 : Hid (BzZ w w1 na n3 A A3 ca c3 la l3 g) := Lib.hid (by
    rw [hw1]
    exact ⟨x0.far (by omega) _ _, x2.stored _ _, x3.far (by omega) _ _, x4.far (by omega) _ _, i3.two x2 _ _, b2 hw3 (by omega) _ _⟩)
  clear hw1 x0 x1 x2 x3 x4 i3 hw3 f0 f1 g0 g1 s2 s3 s4 hlz
  clear w3
  refine wp_region_held_drew (S := fun W => W.cell? ⟨w.heap.size + 1 + 1, 0, none⟩ = some (.bool n3) ∧ W.cell? ⟨w.heap.size + 1 + 1, 1, none⟩ = some (.slice A3 l3.length c3) ∧ W.cell? ⟨w.heap.size, 0, none⟩ = some (.bool na) ∧ W.cell? ⟨w.heap.size, 1, none⟩ = some (.slice A la.length ca)) (by kernel_rfl) HR1.out.cells (fun hHeld => ?_)
  obtain ⟨Wd, hWd⟩ : ∃ W, W = w1.drew := ⟨_, rfl⟩
  rw [← hWd] at hHeld ⊢
  have HRd : Hid (BzZ w Wd na n3 A A3 ca c3 la l3 g) := Lib.hid (by rw [hWd]; exact HR1.out.below (bw (b0 _)))
  clear hWd
  refine wpAnyH_take (i := 0) (v := ?_) rfl (by kernel_rfl) (by kernel_rfl) (by kernel_rfl) (fun _ _ _ h => h) (Or.inl ⟨by rfl, ?_⟩) (by assumption) ?_
  rotate_left
  · (intro w hSw; (try dsimp only at hSw); go_simp; all_goals with_reducible rfl)
  try simp only [Act.put, List.setIfInBounds_toArray, List.set_cons_zero, List.set_cons_succ]
  refine wpAnyH_take (i := 1) (v := ?_) rfl (by kernel_rfl) (by kernel_rfl) (by kernel_rfl) (fun _ _ _ h => h) (Or.inl ⟨by rfl, ?_⟩) (by assumption) ?_
  rotate_left
  · (intro w hSw; (try dsimp only at hSw); go_simp; all_goals with_reducible rfl)
  try simp only [Act.put, List.setIfInBounds_toArray, List.set_cons_zero, List.set_cons_succ]
  refine wpAnyH_take (i := 4) (v := ?_) rfl (by kernel_rfl) (by kernel_rfl) (by kernel_rfl) (fun _ _ _ h => h) (Or.inl ⟨by rfl, ?_⟩) (by assumption) ?_
  rotate_left
  · (intro w hSw; (try dsimp only at hSw); go_simp; all_goals with_reducible rfl)
  try simp only [Act.put, List.setIfInBounds_toArray, List.set_cons_zero, List.set_cons_succ]
  refine wpAnyH_ready (rs := [2]) (by kernel_rfl) (by simp) ?_
  refine AllReadyH.cons rfl (fun K hK => ?_) AllReadyH.nil
  go_simp
  go_at_call 58
  refine (RSign_any na A la.length ca la true _ rfl (by omega) (HIA.out.ws.below HRd.out.k) HIA.out.can).mono ?_
  rintro e w4 ⟨rfl, hb4⟩
  have HB4 := Lib.hid hb4
  have k4 := (HRd.out.below hb4).cells
  rw [HSG.out]
  clear hb4 hHeld
  refine hK.out _ _ k4 (fun hHeld => ?_)
  clear hK K
  try simp only [Act.put, List.setIfInBounds_toArray, List.set_cons_zero, List.set_cons_succ]
  refine wpAnyH_ready (rs := [3]) (by kernel_rfl) (by simp) ?_
  refine AllReadyH.cons rfl (fun K hK => ?_) AllReadyH.nil
  go_simp
  go_at_call 59
  refine (ROf_iv _ sg (by omega) (by omega)).mono ?_
  rintro e w5 ⟨n5, A5, c5, l5, rfl, i5, hb5⟩
  have HB5 := Lib.hid (bt HB4.out hb5)
  have HR5 := Lib.hid (HRd.out.below HB5.out)
  have HI5 := Lib.hid i5
  have k5 := HR5.out.cells
  have x0 := HR5.out.g.cell0
  have x1 := HR5.out.g.cell1
  have y0 := HR5.out.g.free 0
  have y1 := HR5.out.g.free 1
  clear hb5 i5 k4 hHeld
  refine hK.out _ _ k5 (fun hHeld => ?_)
  clear hK K
  try simp only [Act.put, List.setIfInBounds_toArray, List.set_cons_zero, List.set_cons_succ]
  refine wpAnyH_ready (rs := [5]) (by kernel_rfl) (by simp) ?_
  refine AllReadyH.cons rfl (fun K hK => ?_) AllReadyH.nil
  go_simp
  obtain ⟨Wx, hWx⟩ : ∃ W, W = (w5.setCell ⟨w.heap.size + 1 + 1, 0, none⟩ (Value.bool n3)).setCell ⟨w.heap.size + 1 + 1, 1, none⟩ (Value.slice A3 l3.length c3) := ⟨_, rfl⟩
  rw [← hWx]
  have HRx : Hid (BzZ w Wx na n3 A A3 ca c3 la l3 g) := Lib.hid (by rw [hWx]; exact HR5.out.set_g)
  have HIx : Hid (IV Wx n5 A5 c5 l5 sg) := Lib.hid (by rw [hWx]; exact HI5.out.two HR5.out.g _ _)
  clear hHeld k5
  refine hK.out _ _ HRx.out.cells (fun hHeld => ?_)
  clear hK K hWx x0 x1 y0 y1
  try simp only [Act.put, List.setIfInBounds_toArray, List.set_cons_zero, List.set_cons_succ]
  have x0 := HRx.out.u.cell0
  have x1 := HRx.out.u.cell1
  have y0 := HRx.out.u.free 0
  have y1 := HRx.out.u.free 1
  refine wpAnyH_ready (rs := [6]) (by kernel_rfl) (by simp) ?_
  refine AllReadyH.cons rfl (fun K hK => ?_) AllReadyH.nil
  go_simp
  obtain ⟨Wy, hWy⟩ : ∃ W, W = (Wx.setCell ⟨w.heap.size + 1 + 1 + 1, 0, none⟩ (Value.bool n5)).setCell ⟨w.heap.size + 1 + 1 + 1, 1, none⟩ (Value.slice A5 l5.length c5) := ⟨_, rfl⟩
  rw [← hWy]
  have HBy : Hid (Box2 Wy (w.heap.size + 1 + 1) (.bool n3) (.slice A3 l3.length c3) ∧ Box2 Wy (w.heap.size + 1 + 1 + 1) (.bool n5) (.slice A5 l5.length c5) ∧ Box2 Wy (w.heap.size + 1 + 1 + 1 + 1) (.bool false) (.slice none 0 0) ∧ Box2 Wy w.heap.size (.bool na) (.slice A la.length ca)) := Lib.hid (by rw [hWy]; exact ⟨HRx.out.g.far (by omega) _ _, HRx.out.u.stored _ _, HRx.out.v.far (by omega) _ _, HRx.out.a.far (by omega) _ _⟩)
  have HIy : Hid (IV Wy n5 A5 c5 l5 sg ∧ IV Wy n3 A3 c3 l3 g ∧ Below w.heap.size w Wy) := Lib.hid (by rw [hWy]; exact ⟨HIx.out.two HRx.out.u _ _, HRx.out.ig.two HRx.out.u _ _, b2 HRx.out.k (by omega) _ _⟩)
  clear hHeld
  refine hK.out _ _ ⟨HBy.out.1.cell0, HBy.out.1.cell1, HBy.out.2.2.2.cell0, HBy.out.2.2.2.cell1⟩ (fun hHeld => ?_)
  clear hK K hWy x0 x1 y0 y1
  try simp only [Act.put, List.setIfInBounds_toArray, List.set_cons_zero, List.set_cons_succ]
  have x0 := HBy.out.2.2.1.cell0
  have x1 := HBy.out.2.2.1.cell1
  have y0 := HBy.out.2.2.1.free 0
  have y1 := HBy.out.2.2.1.free 1
  refine wpAnyH_ready (rs := [7]) (by kernel_rfl) (by simp) ?_
  refine AllReadyH.cons rfl (fun K hK => ?_) AllReadyH.nil
  go_simp
  obtain ⟨Wz, hWz⟩ : ∃ W, W = (Wy.setCell ⟨w.heap.size + 1 + 1 + 1 + 1, 0, none⟩ (Value.bool false)).setCell ⟨w.heap.size + 1 + 1 + 1 + 1, 1, none⟩ (Value.slice none 0 0) := ⟨_, rfl⟩
  rw [← hWz]
  have HBz : Hid (Box2 Wz (w.heap.size + 1 + 1) (.bool n3) (.slice A3 l3.length c3) ∧ Box2 Wz (w.heap.size + 1 + 1 + 1) (.bool n5) (.slice A5 l5.length c5) ∧ Box2 Wz (w.heap.size + 1 + 1 + 1 + 1) (.bool false) (.slice none 0 0) ∧ Box2 Wz w.heap.size (.bool na) (.slice A la.length ca)) := Lib.hid (by rw [hWz]; exact ⟨HBy.out.1.far (by omega) _ _, HBy.out.2.1.far (by omega) _ _, HBy.out.2.2.1.stored _ _, HBy.out.2.2.2.far (by omega) _ _⟩)
  have HIz : Hid (IV Wz n5 A5 c5 l5 sg ∧ IV Wz n3 A3 c3 l3 g ∧ Below w.heap.size w Wz) := Lib.hid (by rw [hWz]; exact ⟨HIy.out.1.two HBy.out.2.2.1 _ _, HIy.out.2.1.two HBy.out.2.2.1 _ _, b2 HIy.out.2.2 (by omega) _ _⟩)
  clear hHeld
  refine hK.out _ _ ⟨HBz.out.1.cell0, HBz.out.1.cell1, HBz.out.2.2.2.cell0, HBz.out.2.2.2.cell1⟩ (fun hHeld => ?_)
  clear hK K hWz x0 x1 y0 y1
  try simp only [Act.put, List.setIfInBounds_toArray, List.set_cons_zero, List.set_cons_succ]
  refine wpAnyH_ready (rs := [8]) (by kernel_rfl) (by simp) ?_
  refine AllReadyH.cons rfl (fun K hK => ?_) AllReadyH.nil
  go_simp
  refine hK.out _ _ (by assumption) (fun hHeld2 => ?_)
  clear hK K hHeld2
  try simp only [Act.put, List.setIfInBounds_toArray, List.set_cons_zero, List.set_cons_succ]
  refine wpAnyH_done (by kernel_rfl) ?_ _
  clear hHeld
  have h20 := HBz.out.1.cell0
  have h21 := HBz.out.1.cell1
  have h30 := HBz.out.2.1.cell0
  have h31 := HBz.out.2.1.cell1
  have h40 := HBz.out.2.2.1.cell0
  have h41 := HBz.out.2.2.1.cell1
  go_wp2_with fail
  refine bodyPost_ret (v := .tuple #[.agg #[.bool n3, .slice A3 l3.length c3], .agg #[.bool n5, .slice A5 l5.length c5], .agg #[.bool false, .slice none 0 0], .int .i64 0]) (by simp [results, Tryz.results16, go_sem, h20, h21, h30, h31, h40, h41]) rfl ?_
  exact ⟨n3, A3, c3, l3, n5, A5, c5, l5, false, none, 0, [], rfl, HGX.out ▸ HIz.out.2.1, HSE.out ▸ HIz.out.1, ⟨Nat.le_refl _, WS.nil_ _ _, rfl, rfl, by decide⟩, HIz.out.2.2⟩

end Go.Proofs.YtgljdfblgpdaaaaGreatDoor

/-! NumArithmetic: each pair of calls gives one value. -/
namespace Go.Proofs.YtgljdfblgpdaaaaGreatDoor
open Go.RowKit Go.Shelf

theorem riv_form {W : World} {e : Ending} {w' : World} (h : e = .returned (.agg #[.bool false, .slice none 0 0]) ∧ Below W.heap.size W w') : RIV W 0 e w' :=
  ⟨false, none, 0, [], h.1, ⟨Nat.le_refl _, WS.nil_ _ _, rfl, rfl, by decide⟩, h.2⟩
theorem iv_zero (W : World) : IV W false none 0 [] 0 := ⟨Nat.le_refl _, WS.nil_ _ _, rfl, rfl, by decide⟩
/-- A call returned two integers and an error. -/
def DZ (q r er : Int) (W : World) (e : Ending) (w' : World) : Prop :=
  ∃ n1 A1 c1 l1 n2 A2 c2 l2, e = .returned (.tuple #[.agg #[.bool n1, .slice A1 l1.length c1], .agg #[.bool n2, .slice A2 l2.length c2], .int .i64 er]) ∧ IV w' n1 A1 c1 l1 q ∧ IV w' n2 A2 c2 l2 r ∧ Below W.heap.size W w'
theorem RDIV.dz {W : World} {q r : Int} {e : Ending} {w' : World} (h : RDIV W q r e w') : DZ q r 0 W e w' := h
theorem DivE.dz {W : World} {er : Int} {e : Ending} {w' : World} (h : DivE er W e w') : DZ 0 0 er W e w' :=
  ⟨false, none, 0, [], false, none, 0, [], h.1, iv_zero _, iv_zero _, h.2⟩
theorem BezE.bz {W : World} {er : Int} {e : Ending} {w' : World} (h : BezE er W e w') : BZ 0 0 0 er W e w' :=
  ⟨false, none, 0, [], false, none, 0, [], false, none, 0, [], h.1, iv_zero _, iv_zero _, iv_zero _, h.2⟩
theorem RBEZ.bz {W : World} {x y u v : Int} {e : Ending} {w' : World} (hy : y ≠ 0) (hf : BF x y u v) (h : RBEZ W x y e w') : BZ ((Nat.gcd x.natAbs y.natAbs : Nat) : Int) u v 0 W e w' := by
  obtain ⟨u', v', n1, A1, c1, l1, n2, A2, c2, l2, n3, A3, c3, l3, he, hf', i1, i2, i3, hb⟩ := h
  obtain ⟨rfl, rfl⟩ := hf.uniq hy hf'
  exact ⟨n1, A1, c1, l1, n2, A2, c2, l2, n3, A3, c3, l3, he, i1, i2, i3, hb⟩
section
variable {w : World} {na nb : Bool} {A B : Option Addr} {ca cb : Nat} {la lb : List Nat}
theorem adds_both (hl : WS w A la) (hk : WS w B lb) (hca : la.length ≤ ca) (hcb : lb.length ≤ cb) (hla : la.length ≤ 40) (hlb : lb.length ≤ 40) :
    ∃ z, ∀ W, Below w.heap.size w W → Calls Tryz.prog 18 #[.agg #[.bool na, .slice A la.length ca], .agg #[.bool nb, .slice B lb.length cb]] W (RIV W z) ∧ Calls Tryz.prog 19 #[.agg #[.bool na, .slice A la.length ca], .agg #[.bool nb, .slice B lb.length cb]] W (RIV W z) := by
  cases hp : isB na la <;> cases hq : isB nb lb
  case true.true =>
    have hx := lt_le (lt_val hl (n := na) rfl) hla
    have hy := lt_le (lt_val hk (n := nb) rfl) hlb
    have hz : Lt 300 (zI na la + zI nb lb) := lt_le (lt_add hx hy) (by decide)
    refine ⟨zI na la + zI nb lb, fun W hW => ?_⟩
    have ia : IV W na A ca la (zI na la) := ⟨hca, hl.below hW, hp, rfl, by omega⟩
    have ib : IV W nb B cb lb (zI nb lb) := ⟨hcb, hk.below hW, hq, rfl, by omega⟩
    exact ⟨Add_iv ia ib rfl hz, RAdd_iv ia ib rfl hz⟩
  all_goals
    refine ⟨0, fun W hW => ⟨?_, ?_⟩⟩
    · exact (Add_any W W na nb A B la.length ca lb.length cb la lb _ _ rfl rfl (by omega) (by omega) (hl.below hW) (hk.below hW) hp hq (b0 _)).mono fun e w' hr => hr.iv rfl (lt_zero _)
    · exact (RAdd_form W na nb A B ca cb la lb _ _ (by omega) (by omega) (hl.below hW) (hk.below hW) hp hq rfl).mono fun e w' hr => riv_form hr
theorem subs_both (hl : WS w A la) (hk : WS w B lb) (hca : la.length ≤ ca) (hcb : lb.length ≤ cb) (hla : la.length ≤ 40) (hlb : lb.length ≤ 40) :
    ∃ z, ∀ W, Below w.heap.size w W → Calls Tryz.prog 20 #[.agg #[.bool na, .slice A la.length ca], .agg #[.bool nb, .slice B lb.length cb]] W (RIV W z) ∧ Calls Tryz.prog 21 #[.agg #[.bool na, .slice A la.length ca], .agg #[.bool nb, .slice B lb.length cb]] W (RIV W z) := by
  cases hp : isB na la <;> cases hq : isB nb lb
  case true.true =>
    have hx := lt_le (lt_val hl (n := na) rfl) hla
    have hy := lt_le (lt_val hk (n := nb) rfl) hlb
    have hz : Lt 300 (zI na la - zI nb lb) := lt_le (lt_sub hx hy) (by decide)
    refine ⟨zI na la - zI nb lb, fun W hW => ?_⟩
    have ia : IV W na A ca la (zI na la) := ⟨hca, hl.below hW, hp, rfl, by omega⟩
    have ib : IV W nb B cb lb (zI nb lb) := ⟨hcb, hk.below hW, hq, rfl, by omega⟩
    exact ⟨Sub_iv ia ib rfl hz, RSub_iv ia ib rfl hz⟩
  all_goals
    refine ⟨0, fun W hW => ⟨?_, ?_⟩⟩
    · exact (Sub_any W W na nb A B la.length ca lb.length cb la lb _ _ rfl rfl (by omega) (by omega) (hl.below hW) (hk.below hW) hp hq (b0 _)).mono fun e w' hr => hr.iv rfl (lt_zero _)
    · exact (RSub_form W na nb A B ca cb la lb _ _ (by omega) (by omega) (hl.below hW) (hk.below hW) hp hq rfl).mono fun e w' hr => riv_form hr
theorem muls_both (hl : WS w A la) (hk : WS w B lb) (hca : la.length ≤ ca) (hcb : lb.length ≤ cb) (hla : la.length ≤ 40) (hlb : lb.length ≤ 40) :
    ∃ z, ∀ W, Below w.heap.size w W → Calls Tryz.prog 22 #[.agg #[.bool na, .slice A la.length ca], .agg #[.bool nb, .slice B lb.length cb]] W (RIV W z) ∧ Calls Tryz.prog 23 #[.agg #[.bool na, .slice A la.length ca], .agg #[.bool nb, .slice B lb.length cb]] W (RIV W z) := by
  cases hp : isB na la <;> cases hq : isB nb lb
  case true.true =>
    have hx := lt_le (lt_val hl (n := na) rfl) hla
    have hy := lt_le (lt_val hk (n := nb) rfl) hlb
    have hz : Lt 300 (zI na la * zI nb lb) := lt_le (lt_mul hx hy) (by decide)
    refine ⟨zI na la * zI nb lb, fun W hW => ?_⟩
    have ia : IV W na A ca la (zI na la) := ⟨hca, hl.below hW, hp, rfl, by omega⟩
    have ib : IV W nb B cb lb (zI nb lb) := ⟨hcb, hk.below hW, hq, rfl, by omega⟩
    exact ⟨Mul_iv ia ib rfl hz, RMul_iv ia ib rfl hz⟩
  all_goals
    refine ⟨0, fun W hW => ⟨?_, ?_⟩⟩
    · exact (Mul_all W W na nb A B la.length ca lb.length cb la lb _ _ rfl rfl (by omega) (by omega) hca hcb (hl.below hW) (hk.below hW) hp hq (b0 _)).mono fun e w' hr => hr.iv rfl (lt_zero _)
    · exact (RMul_form W na nb A B ca cb la lb _ _ (by omega) (by omega) (hl.below hW) (hk.below hW) hp hq rfl).mono fun e w' hr => riv_form hr
theorem gcds_both (hl : WS w A la) (hk : WS w B lb) (hca : la.length ≤ ca) (hcb : lb.length ≤ cb) (hla : la.length ≤ 40) (hlb : lb.length ≤ 40) :
    ∃ z, ∀ W, Below w.heap.size w W → Calls Tryz.prog 24 #[.agg #[.bool na, .slice A la.length ca], .agg #[.bool nb, .slice B lb.length cb]] W (RIV W z) ∧ Calls Tryz.prog 25 #[.agg #[.bool na, .slice A la.length ca], .agg #[.bool nb, .slice B lb.length cb]] W (RIV W z) := by
  cases hp : isB na la <;> cases hq : isB nb lb
  case true.true =>
    have hx := lt_le (lt_val hl (n := na) rfl) hla
    have hy := lt_le (lt_val hk (n := nb) rfl) hlb
    have hz : Lt 300 (((Nat.gcd (zI na la).natAbs (zI nb lb).natAbs : Nat) : Int)) := lt_le (lt_gcd hx hy) (by decide)
    refine ⟨((Nat.gcd (zI na la).natAbs (zI nb lb).natAbs : Nat) : Int), fun W hW => ?_⟩
    have ia : IV W na A ca la (zI na la) := ⟨hca, hl.below hW, hp, rfl, by omega⟩
    have ib : IV W nb B cb lb (zI nb lb) := ⟨hcb, hk.below hW, hq, rfl, by omega⟩
    exact ⟨Gcd_iv ia ib rfl hz, RGcd_iv ia ib rfl hz⟩
  all_goals
    refine ⟨0, fun W hW => ⟨?_, ?_⟩⟩
    · exact (Gcd_any W W na nb A B la.length ca lb.length cb la lb _ _ rfl rfl (by omega) (by omega) (hl.below hW) (hk.below hW) hp hq (b0 _)).mono fun e w' hr => hr.iv rfl (lt_zero _)
    · exact (RGcd_form W na nb A B ca cb la lb _ _ (by omega) (by omega) (hl.below hW) (hk.below hW) hp hq rfl).mono fun e w' hr => riv_form hr
theorem divs_both (hl : WS w A la) (hk : WS w B lb) (hca : la.length ≤ ca) (hcb : lb.length ≤ cb) (hla : la.length ≤ 40) (hlb : lb.length ≤ 40) :
    ∃ q r er, ∀ W, Below w.heap.size w W → Calls Tryz.prog 13 #[.agg #[.bool na, .slice A la.length ca], .agg #[.bool nb, .slice B lb.length cb]] W (DZ q r er W) ∧ Calls Tryz.prog 14 #[.agg #[.bool na, .slice A la.length ca], .agg #[.bool nb, .slice B lb.length cb]] W (DZ q r er W) := by
  cases hp : isB na la <;> cases hq : isB nb lb
  case true.true =>
    have hx := lt_le (lt_le (lt_val hl (n := na) rfl) hla) (show 40 ≤ 300 by decide)
    have hy := lt_le (lt_le (lt_val hk (n := nb) rfl) hlb) (show 40 ≤ 300 by decide)
    by_cases h0 : zI nb lb = 0
    · have hk0 := (zI_zero hq).1 h0
      exact ⟨0, 0, 5, fun W hW => ⟨(Div_zero W na nb A B ca cb la lb (by omega) (hl.below hW) (hk.below hW) hp hq hk0).mono fun e w' hr => hr.dz, (RDiv_zero W na nb A B ca cb la lb (by omega) (by omega) (hl.below hW) (hk.below hW) hp hq hk0).mono fun e w' hr => hr.dz⟩⟩
    · refine ⟨zI na la / zI nb lb, zI na la % zI nb lb, 0, fun W hW => ?_⟩
      have ia : IV W na A ca la (zI na la) := ⟨hca, hl.below hW, hp, rfl, by omega⟩
      have ib : IV W nb B cb lb (zI nb lb) := ⟨hcb, hk.below hW, hq, rfl, by omega⟩
      exact ⟨(Div_iv ia ib h0 rfl rfl (lt_ediv hx) (lt_emod h0 hy)).mono fun e w' hr => hr.dz, (RDiv_iv ia ib h0).mono fun e w' hr => hr.dz⟩
  all_goals
    exact ⟨0, 0, 3, fun W hW => ⟨(Div_form W na nb A B ca cb la lb _ _ (by omega) (by omega) (hl.below hW) (hk.below hW) hp hq rfl).mono fun e w' hr => hr.dz, (RDiv_form W na nb A B ca cb la lb _ _ (by omega) (by omega) (hl.below hW) (hk.below hW) hp hq rfl).mono fun e w' hr => hr.dz⟩⟩
theorem bezs_both (hl : WS w A la) (hk : WS w B lb) (hca : la.length ≤ ca) (hcb : lb.length ≤ cb) (hla : la.length ≤ 40) (hlb : lb.length ≤ 40) :
    ∃ g u v er, ∀ W, Below w.heap.size w W → Calls Tryz.prog 15 #[.agg #[.bool na, .slice A la.length ca], .agg #[.bool nb, .slice B lb.length cb]] W (BZ g u v er W) ∧ Calls Tryz.prog 16 #[.agg #[.bool na, .slice A la.length ca], .agg #[.bool nb, .slice B lb.length cb]] W (BZ g u v er W) := by
  cases hp : isB na la <;> cases hq : isB nb lb
  case true.true =>
    have hx := lt_le (lt_le (lt_val hl (n := na) rfl) hla) (show 40 ≤ 50 by decide)
    have hy := lt_le (lt_le (lt_val hk (n := nb) rfl) hlb) (show 40 ≤ 50 by decide)
    by_cases h0 : zI nb lb = 0
    · have hk0 := (zI_zero hq).1 h0
      refine ⟨(((zI na la).natAbs : Nat) : Int), cmpI (zI na la) 0, 0, 0, fun W hW => ?_⟩
      have ia : IV W na A ca la (zI na la) := ⟨hca, hl.below hW, hp, rfl, by omega⟩
      have ib : IV W nb B cb lb (zI nb lb) := ⟨hcb, hk.below hW, hq, rfl, by omega⟩
      refine ⟨(Bezout_zero W na nb A B ca cb la lb (by omega) (hl.below hW) (hk.below hW) hp hq hk0).mono ?_, RBez_zero ia ib hx h0⟩
      rintro e w' ⟨n1, A1, c1, l1, n2, A2, c2, l2, n3, A3, c3, l3, he, i1, i2, i3, hb⟩
      rw [sgn_eq hp] at i2
      rw [val_abs (n := na) (l := la) rfl] at i1
      refine ⟨n1, A1, c1, l1, n2, A2, c2, l2, n3, A3, c3, l3, he, ip_iv i1 ?_, ip_iv i2 ?_, ip_iv i3 (lt_zero _), hb⟩
      · have := lt_le hx (show 50 ≤ 300 by decide)
        unfold Lt at *; simpa using this
      · refine lt_le (lt_one ?_) (show 1 ≤ 300 by decide)
        rcases cmpI_three (zI na la) 0 with h | h | h <;> rw [h] <;> decide
    · rcases Classical.em (∃ u v, BF (zI na la) (zI nb lb) u v) with ⟨u, v, hf⟩ | hno
      · refine ⟨((Nat.gcd (zI na la).natAbs (zI nb lb).natAbs : Nat) : Int), u, v, 0, fun W hW => ?_⟩
        have ia : IV W na A ca la (zI na la) := ⟨hca, hl.below hW, hp, rfl, by omega⟩
        have ib : IV W nb B cb lb (zI nb lb) := ⟨hcb, hk.below hW, hq, rfl, by omega⟩
        exact ⟨(Bez_iv ia ib hx hy).mono fun e w' hr => hr.bz h0 hf, (RBez_main ia ib hx hy h0).mono fun e w' hr => hr.bz h0 hf⟩
      · refine ⟨0, 0, 0, 0, fun W hW => ?_⟩
        have ia : IV W na A ca la (zI na la) := ⟨hca, hl.below hW, hp, rfl, by omega⟩
        have ib : IV W nb B cb lb (zI nb lb) := ⟨hcb, hk.below hW, hq, rfl, by omega⟩
        refine ⟨(Bez_iv ia ib hx hy).mono fun e w' hr => ?_, (RBez_main ia ib hx hy h0).mono fun e w' hr => ?_⟩
        · obtain ⟨u, v, _, _, _, _, _, _, _, _, _, _, _, _, _, hf, _⟩ := hr
          exact absurd ⟨u, v, hf⟩ hno
        · obtain ⟨u, v, _, _, _, _, _, _, _, _, _, _, _, _, _, hf, _⟩ := hr
          exact absurd ⟨u, v, hf⟩ hno
  all_goals
    exact ⟨0, 0, 0, 3, fun W hW => ⟨(Bezout_form W na nb A B ca cb la lb _ _ (by omega) (by omega) (hl.below hW) (hk.below hW) hp hq rfl).mono fun e w' hr => hr.bz, (RBezout_form W na nb A B ca cb la lb _ _ (by omega) (by omega) (hl.below hW) (hk.below hW) hp hq rfl).mono fun e w' hr => hr.bz⟩⟩
end
end Go.Proofs.YtgljdfblgpdaaaaGreatDoor

/-! NumArithmetic: the law's walk. -/
namespace Go.Proofs.YtgljdfblgpdaaaaGreatDoor
open Go.RowKit Go.Shelf

set_option maxRecDepth 100000 in
set_option maxHeartbeats 1000000 in
theorem NumArithmetic_long (w : World) (na nb : Bool) (A B : Option Addr) (x ca y cb : Nat) (hlong : ¬ (x ≤ 40 ∧ y ≤ 40)) (hT : Tens w) :
    Calls Tryz.prog 3 #[.agg #[.bool na, .slice A x ca], .agg #[.bool nb, .slice B y cb]] w fun e w' => e = .returned (.bool true) ∧ Below w.heap.size w w' := by
  have HTn := Lib.hid hT
  have hsh := fun W => short_wide 40 na nb nb A B B x y y ca cb cb W (by omega) false (by rw [Bool.eq_false_iff]; intro h; simp only [Bool.and_eq_true, decide_eq_true_eq] at h; exact hlong ⟨h.1.1, h.2⟩)
  have HSH := Lib.hid hsh
  clear hT hsh hlong
  go_enter Tryz.func3, Tryz.ntmps3
  go_wp2_with fail
  refine (HSH.out _).mono ?_
  rintro e w2 ⟨rfl, hb2⟩
  have hb : Below w.heap.size w w2 := bt (ba (ba (b0 _) _) _) hb2
  go_wp2_with fail
  refine (sane_any w2 (HTn.out.below hb)).mono ?_
  rintro e w3 ⟨rfl, hb3⟩
  go_wp2_with fail
  go_ret
  exact ⟨rfl, bt hb hb3⟩

set_option maxRecDepth 100000 in
set_option maxHeartbeats 8000000 in
theorem NumArithmetic_main (w : World) (na nb : Bool) (A B : Option Addr) (ca cb : Nat) (la lb : List Nat) (hl : WS w A la) (hk : WS w B lb) (hca : la.length ≤ ca) (hcb : lb.length ≤ cb) (hla : la.length ≤ 40) (hlb : lb.length ≤ 40) (hT : Tens w) :
    Calls Tryz.prog 3 #[.agg #[.bool na, .slice A la.length ca], .agg #[.bool nb, .slice B lb.length cb]] w fun e w' => e = .returned (.bool true) ∧ Below w.heap.size w w' := by
  have HTn := Lib.hid hT
  have hsh := fun W => short_wide 40 na nb nb A B B la.length lb.length lb.length ca cb cb W (by omega) true (by simp [hla, hlb])
  have HSH := Lib.hid hsh
  obtain ⟨dq, dr, de, hD⟩ := divs_both (na := na) (nb := nb) hl hk hca hcb hla hlb
  obtain ⟨bg, bu, bv, be, hB⟩ := bezs_both (na := na) (nb := nb) hl hk hca hcb hla hlb
  obtain ⟨za, hA⟩ := adds_both (na := na) (nb := nb) hl hk hca hcb hla hlb
  obtain ⟨zs, hS⟩ := subs_both (na := na) (nb := nb) hl hk hca hcb hla hlb
  obtain ⟨zm, hM⟩ := muls_both (na := na) (nb := nb) hl hk hca hcb hla hlb
  obtain ⟨zg, hG⟩ := gcds_both (na := na) (nb := nb) hl hk hca hcb hla hlb
  have HD := Lib.hid hD
  have HB := Lib.hid hB
  have HA := Lib.hid hA
  have HS := Lib.hid hS
  have HM := Lib.hid hM
  have HG := Lib.hid hG
  clear hT hsh hl hk hca hcb hla hlb hD hB hA hS hM hG
  go_enter Tryz.func3, Tryz.ntmps3
  go_wp2_with fail
  obtain ⟨W1, hW1⟩ : ∃ W, W = (w.alloc (bx na A la.length ca)).alloc (bx nb B lb.length cb) := ⟨_, rfl⟩
  have Y0 : Box2 W1 w.heap.size (.bool na) (.slice A la.length ca) := by rw [hW1]; exact (Box2.new w _ _).alloc _
  have Z0 : Box2 W1 (w.heap.size + 1) (.bool nb) (.slice B lb.length cb) := by
    rw [hW1]
    have := Box2.new (w.alloc (bx na A la.length ca)) (.bool nb) (.slice B lb.length cb)
    rwa [World.size_alloc] at this
  have K1 : Below w.heap.size w W1 := by rw [hW1]; exact ba (ba (b0 _) _) _
  change Calls _ _ _ ((w.alloc (bx na A la.length ca)).alloc (bx nb B lb.length cb)) _
  rw [← hW1]
  clear hW1
  refine (HSH.out W1).mono ?_
  rintro e w2 ⟨rfl, hb2⟩
  have K2 : Below w.heap.size w w2 := bt K1 hb2
  have Y2 := Y0.below hb2
  have Z2 := Z0.below hb2
  have y0 := Y2.cell0
  have y1 := Y2.cell1
  have y2 := Z2.cell0
  have y3 := Z2.cell1
  clear Y0 Z0 K1 hb2 HSH
  go_wp2_with fail
  refine (HD.out w2 K2).1.mono ?_
  rintro e w3 ⟨nq1, Aq1, cq1, lq1, nq2, Aq2, cq2, lq2, rfl, i1, i2, hb⟩
  have K3 := bt K2 hb
  have Y3 := Y2.below hb
  have Z3 := Z2.below hb
  clear K2 Y2 Z2 y0 y1 y2 y3
  clear hb
  go_upto_region 4 with fail
  obtain ⟨w4, hw⟩ : ∃ W, W = (w3.alloc (.cells #[.bool nq1, .slice Aq1 lq1.length cq1] 24)).alloc (.cells #[.bool nq2, .slice Aq2 lq2.length cq2] 24) := ⟨_, rfl⟩
  have Xq1 : Box2 w4 (w3.heap.size) (.bool nq1) (.slice Aq1 lq1.length cq1) := by
    rw [hw]
    have h := Box2.new w3 (.bool nq1) (.slice Aq1 lq1.length cq1)
    (try rw [id] at h)
    exact (h.alloc _)
  have Xq2 : Box2 w4 (w3.heap.size + 1) (.bool nq2) (.slice Aq2 lq2.length cq2) := by
    rw [hw]
    have h := Box2.new (w3.alloc (.cells #[.bool nq1, .slice Aq1 lq1.length cq1] 24)) (.bool nq2) (.slice Aq2 lq2.length cq2)
    (try rw [World.size_alloc] at h)
    exact h
  have hb : Below w3.heap.size w3 w4 := by rw [hw]; exact ba (ba (b0 _) _) _
  rw [← hw]
  clear hw
  have K4 := bt K3 hb
  have Y4 := Y3.below hb
  have Z4 := Z3.below hb
  have Iq1 := Lib.hid (i1.below hb)
  have Iq2 := Lib.hid (i2.below hb)
  have y0 := Y4.cell0
  have y1 := Y4.cell1
  have y2 := Z4.cell0
  have y3 := Z4.cell1
  clear K3 Y3 Z3 i1 i2
  go_wp2_with fail
  refine (HD.out w4 K4).2.mono ?_
  rintro e w5 ⟨ns1, As1, cs1, ls1, ns2, As2, cs2, ls2, rfl, i1, i2, hb⟩
  have K5 := bt K4 hb
  have Y5 := Y4.below hb
  have Z5 := Z4.below hb
  clear K4 Y4 Z4 y0 y1 y2 y3
  replace Xq1 := Xq1.below hb
  replace Xq2 := Xq2.below hb
  replace Iq1 := Lib.hid (Iq1.out.below hb)
  replace Iq2 := Lib.hid (Iq2.out.below hb)
  clear hb
  go_upto_region 5 with fail
  obtain ⟨w6, hw⟩ : ∃ W, W = (w5.alloc (.cells #[.bool ns1, .slice As1 ls1.length cs1] 24)).alloc (.cells #[.bool ns2, .slice As2 ls2.length cs2] 24) := ⟨_, rfl⟩
  have Xs1 : Box2 w6 (w5.heap.size) (.bool ns1) (.slice As1 ls1.length cs1) := by
    rw [hw]
    have h := Box2.new w5 (.bool ns1) (.slice As1 ls1.length cs1)
    (try rw [id] at h)
    exact (h.alloc _)
  have Xs2 : Box2 w6 (w5.heap.size + 1) (.bool ns2) (.slice As2 ls2.length cs2) := by
    rw [hw]
    have h := Box2.new (w5.alloc (.cells #[.bool ns1, .slice As1 ls1.length cs1] 24)) (.bool ns2) (.slice As2 ls2.length cs2)
    (try rw [World.size_alloc] at h)
    exact h
  have hb : Below w5.heap.size w5 w6 := by rw [hw]; exact ba (ba (b0 _) _) _
  rw [← hw]
  clear hw
  have K6 := bt K5 hb
  have Y6 := Y5.below hb
  have Z6 := Z5.below hb
  replace Xq1 := Xq1.below hb
  replace Xq2 := Xq2.below hb
  replace Iq1 := Lib.hid (Iq1.out.below hb)
  replace Iq2 := Lib.hid (Iq2.out.below hb)
  have Is1 := Lib.hid (i1.below hb)
  have Is2 := Lib.hid (i2.below hb)
  have y0 := Y6.cell0
  have y1 := Y6.cell1
  have y2 := Z6.cell0
  have y3 := Z6.cell1
  clear K5 Y5 Z5 i1 i2
  go_wp2_with fail
  refine (HB.out w6 K6).1.mono ?_
  rintro e w7 ⟨ng1, Ag1, cg1, lg1, ng2, Ag2, cg2, lg2, ng3, Ag3, cg3, lg3, rfl, i1, i2, i3, hb⟩
  have K7 := bt K6 hb
  have Y7 := Y6.below hb
  have Z7 := Z6.below hb
  clear K6 Y6 Z6 y0 y1 y2 y3
  replace Xq1 := Xq1.below hb
  replace Xq2 := Xq2.below hb
  replace Xs1 := Xs1.below hb
  replace Xs2 := Xs2.below hb
  replace Iq1 := Lib.hid (Iq1.out.below hb)
  replace Iq2 := Lib.hid (Iq2.out.below hb)
  replace Is1 := Lib.hid (Is1.out.below hb)
  replace Is2 := Lib.hid (Is2.out.below hb)
  clear hb
  go_upto_region 6 with fail
  obtain ⟨w8, hw⟩ : ∃ W, W = ((w7.alloc (.cells #[.bool ng1, .slice Ag1 lg1.length cg1] 24)).alloc (.cells #[.bool ng2, .slice Ag2 lg2.length cg2] 24)).alloc (.cells #[.bool ng3, .slice Ag3 lg3.length cg3] 24) := ⟨_, rfl⟩
  have Xg1 : Box2 w8 (w7.heap.size) (.bool ng1) (.slice Ag1 lg1.length cg1) := by
    rw [hw]
    have h := Box2.new w7 (.bool ng1) (.slice Ag1 lg1.length cg1)
    (try rw [id] at h)
    exact ((h.alloc _).alloc _)
  have Xg2 : Box2 w8 (w7.heap.size + 1) (.bool ng2) (.slice Ag2 lg2.length cg2) := by
    rw [hw]
    have h := Box2.new (w7.alloc (.cells #[.bool ng1, .slice Ag1 lg1.length cg1] 24)) (.bool ng2) (.slice Ag2 lg2.length cg2)
    (try rw [World.size_alloc] at h)
    exact (h.alloc _)
  have Xg3 : Box2 w8 (w7.heap.size + 1 + 1) (.bool ng3) (.slice Ag3 lg3.length cg3) := by
    rw [hw]
    have h := Box2.new ((w7.alloc (.cells #[.bool ng1, .slice Ag1 lg1.length cg1] 24)).alloc (.cells #[.bool ng2, .slice Ag2 lg2.length cg2] 24)) (.bool ng3) (.slice Ag3 lg3.length cg3)
    (try rw [World.size_alloc, World.size_alloc] at h)
    exact h
  have hb : Below w7.heap.size w7 w8 := by rw [hw]; exact ba (ba (ba (b0 _) _) _) _
  rw [← hw]
  clear hw
  have K8 := bt K7 hb
  have Y8 := Y7.below hb
  have Z8 := Z7.below hb
  replace Xq1 := Xq1.below hb
  replace Xq2 := Xq2.below hb
  replace Xs1 := Xs1.below hb
  replace Xs2 := Xs2.below hb
  replace Iq1 := Lib.hid (Iq1.out.below hb)
  replace Iq2 := Lib.hid (Iq2.out.below hb)
  replace Is1 := Lib.hid (Is1.out.below hb)
  replace Is2 := Lib.hid (Is2.out.below hb)
  have Ig1 := Lib.hid (i1.below hb)
  have Ig2 := Lib.hid (i2.below hb)
  have Ig3 := Lib.hid (i3.below hb)
  have y0 := Y8.cell0
  have y1 := Y8.cell1
  have y2 := Z8.cell0
  have y3 := Z8.cell1
  clear K7 Y7 Z7 i1 i2 i3
  go_wp2_with fail
  refine (HB.out w8 K8).2.mono ?_
  rintro e w9 ⟨nk1, Ak1, ck1, lk1, nk2, Ak2, ck2, lk2, nk3, Ak3, ck3, lk3, rfl, i1, i2, i3, hb⟩
  have K9 := bt K8 hb
  have Y9 := Y8.below hb
  have Z9 := Z8.below hb
  clear K8 Y8 Z8 y0 y1 y2 y3
  replace Xq1 := Xq1.below hb
  replace Xq2 := Xq2.below hb
  replace Xs1 := Xs1.below hb
  replace Xs2 := Xs2.below hb
  replace Xg1 := Xg1.below hb
  replace Xg2 := Xg2.below hb
  replace Xg3 := Xg3.below hb
  replace Iq1 := Lib.hid (Iq1.out.below hb)
  replace Iq2 := Lib.hid (Iq2.out.below hb)
  replace Is1 := Lib.hid (Is1.out.below hb)
  replace Is2 := Lib.hid (Is2.out.below hb)
  replace Ig1 := Lib.hid (Ig1.out.below hb)
  replace Ig2 := Lib.hid (Ig2.out.below hb)
  replace Ig3 := Lib.hid (Ig3.out.below hb)
  clear hb
  go_upto_region 7 with fail
  obtain ⟨w10, hw⟩ : ∃ W, W = ((w9.alloc (.cells #[.bool nk1, .slice Ak1 lk1.length ck1] 24)).alloc (.cells #[.bool nk2, .slice Ak2 lk2.length ck2] 24)).alloc (.cells #[.bool nk3, .slice Ak3 lk3.length ck3] 24) := ⟨_, rfl⟩
  have Xk1 : Box2 w10 (w9.heap.size) (.bool nk1) (.slice Ak1 lk1.length ck1) := by
    rw [hw]
    have h := Box2.new w9 (.bool nk1) (.slice Ak1 lk1.length ck1)
    (try rw [id] at h)
    exact ((h.alloc _).alloc _)
  have Xk2 : Box2 w10 (w9.heap.size + 1) (.bool nk2) (.slice Ak2 lk2.length ck2) := by
    rw [hw]
    have h := Box2.new (w9.alloc (.cells #[.bool nk1, .slice Ak1 lk1.length ck1] 24)) (.bool nk2) (.slice Ak2 lk2.length ck2)
    (try rw [World.size_alloc] at h)
    exact (h.alloc _)
  have Xk3 : Box2 w10 (w9.heap.size + 1 + 1) (.bool nk3) (.slice Ak3 lk3.length ck3) := by
    rw [hw]
    have h := Box2.new ((w9.alloc (.cells #[.bool nk1, .slice Ak1 lk1.length ck1] 24)).alloc (.cells #[.bool nk2, .slice Ak2 lk2.length ck2] 24)) (.bool nk3) (.slice Ak3 lk3.length ck3)
    (try rw [World.size_alloc, World.size_alloc] at h)
    exact h
  have hb : Below w9.heap.size w9 w10 := by rw [hw]; exact ba (ba (ba (b0 _) _) _) _
  rw [← hw]
  clear hw
  have K10 := bt K9 hb
  have Y10 := Y9.below hb
  have Z10 := Z9.below hb
  replace Xq1 := Xq1.below hb
  replace Xq2 := Xq2.below hb
  replace Xs1 := Xs1.below hb
  replace Xs2 := Xs2.below hb
  replace Xg1 := Xg1.below hb
  replace Xg2 := Xg2.below hb
  replace Xg3 := Xg3.below hb
  replace Iq1 := Lib.hid (Iq1.out.below hb)
  replace Iq2 := Lib.hid (Iq2.out.below hb)
  replace Is1 := Lib.hid (Is1.out.below hb)
  replace Is2 := Lib.hid (Is2.out.below hb)
  replace Ig1 := Lib.hid (Ig1.out.below hb)
  replace Ig2 := Lib.hid (Ig2.out.below hb)
  replace Ig3 := Lib.hid (Ig3.out.below hb)
  have Ik1 := Lib.hid (i1.below hb)
  have Ik2 := Lib.hid (i2.below hb)
  have Ik3 := Lib.hid (i3.below hb)
  have y0 := Y10.cell0
  have y1 := Y10.cell1
  have y2 := Z10.cell0
  have y3 := Z10.cell1
  clear K9 Y9 Z9 i1 i2 i3
  have HK := Lib.hid K10
  clear K10 y0 y1 y2 y3
  go_upto_region 7 with fail
  go_cut [19] (fun v wx => v = .bool true ∧ Below w10.heap.size w10 wx)
  case first =>
    as_aux_lemma =>
    have HSS := Lib.hid (fun W (hb : Below w10.heap.size w10 W) => (show W.cell? ⟨w.heap.size, 0, none⟩ = some (.bool na) ∧ W.cell? ⟨w.heap.size, 1, none⟩ = some (.slice A la.length ca) ∧ W.cell? ⟨w.heap.size + 1, 0, none⟩ = some (.bool nb) ∧ W.cell? ⟨w.heap.size + 1, 1, none⟩ = some (.slice B lb.length cb) from ⟨cell_below Y10.cell0 hb, cell_below Y10.cell1 hb, cell_below Z10.cell0 hb, cell_below Z10.cell1 hb⟩))
    refine wp_region_held_drew (S := fun W => W.cell? ⟨w.heap.size, 0, none⟩ = some (.bool na) ∧ W.cell? ⟨w.heap.size, 1, none⟩ = some (.slice A la.length ca) ∧ W.cell? ⟨w.heap.size + 1, 0, none⟩ = some (.bool nb) ∧ W.cell? ⟨w.heap.size + 1, 1, none⟩ = some (.slice B lb.length cb)) (by kernel_rfl) (HSS.out _ (bw (b0 _))) (fun hHeld => ?_)
    obtain ⟨wd1, hwd1⟩ : ∃ W, W = w10.drew := ⟨_, rfl⟩
    have hb1_wd1 : Below w10.heap.size w10 wd1 := by rw [hwd1]; exact bw (b0 _)
    rw [← hwd1] at hHeld ⊢
    clear hwd1
    refine wpAnyH_take (i := 0) (v := ?_) rfl (by kernel_rfl) (by kernel_rfl) (by kernel_rfl) (fun _ _ _ h => h) (Or.inl ⟨by rfl, ?_⟩) (by assumption) ?_
    rotate_left
    · (intro w hSw; (try dsimp only at hSw); go_simp; all_goals with_reducible rfl)
    try simp only [Act.put, List.getElem_toArray, List.getElem_cons_zero, List.getElem_cons_succ, List.setIfInBounds_toArray, List.set_cons_zero, List.set_cons_succ]
    refine wpAnyH_take (i := 1) (v := ?_) rfl (by kernel_rfl) (by kernel_rfl) (by kernel_rfl) (fun _ _ _ h => h) (Or.inl ⟨by rfl, ?_⟩) (by assumption) ?_
    rotate_left
    · (intro w hSw; (try dsimp only at hSw); go_simp; all_goals with_reducible rfl)
    try simp only [Act.put, List.getElem_toArray, List.getElem_cons_zero, List.getElem_cons_succ, List.setIfInBounds_toArray, List.set_cons_zero, List.set_cons_succ]
    refine wpAnyH_take (i := 3) (v := ?_) rfl (by kernel_rfl) (by kernel_rfl) (by kernel_rfl) (fun _ _ _ h => h) (Or.inl ⟨by rfl, ?_⟩) (by assumption) ?_
    rotate_left
    · (intro w hSw; (try dsimp only at hSw); go_simp; all_goals with_reducible rfl)
    try simp only [Act.put, List.getElem_toArray, List.getElem_cons_zero, List.getElem_cons_succ, List.setIfInBounds_toArray, List.set_cons_zero, List.set_cons_succ]
    refine wpAnyH_take (i := 4) (v := ?_) rfl (by kernel_rfl) (by kernel_rfl) (by kernel_rfl) (fun _ _ _ h => h) (Or.inl ⟨by rfl, ?_⟩) (by assumption) ?_
    rotate_left
    · (intro w hSw; (try dsimp only at hSw); go_simp; all_goals with_reducible rfl)
    try simp only [Act.put, List.getElem_toArray, List.getElem_cons_zero, List.getElem_cons_succ, List.setIfInBounds_toArray, List.set_cons_zero, List.set_cons_succ]
    refine wpAnyH_ready (rs := [2]) (by kernel_rfl) (by simp) ?_
    refine AllReadyH.cons rfl (fun K hK => ?_) AllReadyH.nil
    go_simp
    go_at_call 18
    refine ((HA.out _ (bt HK.out hb1_wd1)).1).mono ?_
    rintro e w20 ⟨n20, A20, c20, l20, rfl, i20, hb20⟩
    have hb1_w20 : Below w10.heap.size w10 w20 := bt hb1_wd1 hb20
    have I20 := Lib.hid i20
    clear i20 hb20
    clear hHeld
    refine hK.out _ _ (HSS.out _ hb1_w20) (fun hHeld => ?_)
    clear hK K
    try simp only [Act.put, List.getElem_toArray, List.getElem_cons_zero, List.getElem_cons_succ, List.setIfInBounds_toArray, List.set_cons_zero, List.set_cons_succ]
    refine wpAnyH_ready (rs := [5]) (by kernel_rfl) (by simp) ?_
    refine AllReadyH.cons rfl (fun K hK => ?_) AllReadyH.nil
    go_simp
    go_at_call 19
    refine ((HA.out _ (bt HK.out hb1_w20)).2).mono ?_
    rintro e w21 ⟨n21, A21, c21, l21, rfl, i21, hb21⟩
    have hb1_w21 : Below w10.heap.size w10 w21 := bt hb1_w20 hb21
    have J21 := Lib.hid (I20.out.below hb21)
    have I21 := Lib.hid i21
    clear i21 hb21
    clear hHeld
    refine hK.out _ _ (HSS.out _ hb1_w21) (fun hHeld => ?_)
    clear hK K
    try simp only [Act.put, List.getElem_toArray, List.getElem_cons_zero, List.getElem_cons_succ, List.setIfInBounds_toArray, List.set_cons_zero, List.set_cons_succ]
    refine wpAnyH_ready (rs := [6]) (by kernel_rfl) (by simp) ?_
    refine AllReadyH.cons rfl (fun K hK => ?_) AllReadyH.nil
    go_simp
    go_at_call 17
    refine (Same_iv J21.out I21.out).mono ?_
    rintro e w22 ⟨rfl, hb22⟩
    have hb1_w22 : Below w10.heap.size w10 w22 := bt hb1_w21 hb22
    clear hb22
    clear hHeld
    refine hK.out _ _ (HSS.out _ hb1_w22) (fun hHeld => ?_)
    clear hK K
    try simp only [Act.put, List.getElem_toArray, List.getElem_cons_zero, List.getElem_cons_succ, List.setIfInBounds_toArray, List.set_cons_zero, List.set_cons_succ]
    refine wpAnyH_take (i := 7) (v := ?_) rfl (by kernel_rfl) (by kernel_rfl) (by kernel_rfl) (fun _ _ _ h => h) (Or.inl ⟨by rfl, ?_⟩) (by assumption) ?_
    rotate_left
    · (intro w hSw; (try dsimp only at hSw); go_simp; all_goals with_reducible rfl)
    try simp only [Act.put, List.getElem_toArray, List.getElem_cons_zero, List.getElem_cons_succ, List.setIfInBounds_toArray, List.set_cons_zero, List.set_cons_succ]
    refine wpAnyH_take (i := 8) (v := ?_) rfl (by kernel_rfl) (by kernel_rfl) (by kernel_rfl) (fun _ _ _ h => h) (Or.inl ⟨by rfl, ?_⟩) (by assumption) ?_
    rotate_left
    · (intro w hSw; (try dsimp only at hSw); go_simp; all_goals with_reducible rfl)
    try simp only [Act.put, List.getElem_toArray, List.getElem_cons_zero, List.getElem_cons_succ, List.setIfInBounds_toArray, List.set_cons_zero, List.set_cons_succ]
    refine wpAnyH_take (i := 9) (v := ?_) rfl (by kernel_rfl) (by kernel_rfl) (by kernel_rfl) (fun _ _ _ h => h) (Or.inl ⟨by rfl, ?_⟩) (by assumption) ?_
    rotate_left
    · (intro w hSw; (try dsimp only at hSw); go_simp; all_goals with_reducible rfl)
    try simp only [Act.put, List.getElem_toArray, List.getElem_cons_zero, List.getElem_cons_succ, List.setIfInBounds_toArray, List.set_cons_zero, List.set_cons_succ]
    refine wpAnyH_take (i := 11) (v := ?_) rfl (by kernel_rfl) (by kernel_rfl) (by kernel_rfl) (fun _ _ _ h => h) (Or.inl ⟨by rfl, ?_⟩) (by assumption) ?_
    rotate_left
    · (intro w hSw; (try dsimp only at hSw); go_simp; all_goals with_reducible rfl)
    try simp only [Act.put, List.getElem_toArray, List.getElem_cons_zero, List.getElem_cons_succ, List.setIfInBounds_toArray, List.set_cons_zero, List.set_cons_succ]
    refine wpAnyH_take (i := 12) (v := ?_) rfl (by kernel_rfl) (by kernel_rfl) (by kernel_rfl) (fun _ _ _ h => h) (Or.inl ⟨by rfl, ?_⟩) (by assumption) ?_
    rotate_left
    · (intro w hSw; (try dsimp only at hSw); go_simp; all_goals with_reducible rfl)
    try simp only [Act.put, List.getElem_toArray, List.getElem_cons_zero, List.getElem_cons_succ, List.setIfInBounds_toArray, List.set_cons_zero, List.set_cons_succ]
    refine wpAnyH_ready (rs := [10]) (by kernel_rfl) (by simp) ?_
    refine AllReadyH.cons rfl (fun K hK => ?_) AllReadyH.nil
    go_simp
    go_at_call 20
    refine ((HS.out _ (bt HK.out hb1_w22)).1).mono ?_
    rintro e w23 ⟨n23, A23, c23, l23, rfl, i23, hb23⟩
    have hb1_w23 : Below w10.heap.size w10 w23 := bt hb1_w22 hb23
    have I23 := Lib.hid i23
    clear i23 hb23
    clear hHeld
    refine hK.out _ _ (HSS.out _ hb1_w23) (fun hHeld => ?_)
    clear hK K
    try simp only [Act.put, List.getElem_toArray, List.getElem_cons_zero, List.getElem_cons_succ, List.setIfInBounds_toArray, List.set_cons_zero, List.set_cons_succ]
    refine wpAnyH_ready (rs := [13]) (by kernel_rfl) (by simp) ?_
    refine AllReadyH.cons rfl (fun K hK => ?_) AllReadyH.nil
    go_simp
    go_at_call 21
    refine ((HS.out _ (bt HK.out hb1_w23)).2).mono ?_
    rintro e w24 ⟨n24, A24, c24, l24, rfl, i24, hb24⟩
    have hb1_w24 : Below w10.heap.size w10 w24 := bt hb1_w23 hb24
    have J24 := Lib.hid (I23.out.below hb24)
    have I24 := Lib.hid i24
    clear i24 hb24
    clear hHeld
    refine hK.out _ _ (HSS.out _ hb1_w24) (fun hHeld => ?_)
    clear hK K
    try simp only [Act.put, List.getElem_toArray, List.getElem_cons_zero, List.getElem_cons_succ, List.setIfInBounds_toArray, List.set_cons_zero, List.set_cons_succ]
    refine wpAnyH_ready (rs := [14]) (by kernel_rfl) (by simp) ?_
    refine AllReadyH.cons rfl (fun K hK => ?_) AllReadyH.nil
    go_simp
    go_at_call 17
    refine (Same_iv J24.out I24.out).mono ?_
    rintro e w25 ⟨rfl, hb25⟩
    have hb1_w25 : Below w10.heap.size w10 w25 := bt hb1_w24 hb25
    clear hb25
    clear hHeld
    refine hK.out _ _ (HSS.out _ hb1_w25) (fun hHeld => ?_)
    clear hK K
    try simp only [Act.put, List.getElem_toArray, List.getElem_cons_zero, List.getElem_cons_succ, List.setIfInBounds_toArray, List.set_cons_zero, List.set_cons_succ]
    refine wpAnyH_take (i := 15) (v := ?_) rfl (by kernel_rfl) (by kernel_rfl) (by kernel_rfl) (fun _ _ _ h => h) (Or.inl ⟨by rfl, ?_⟩) (by assumption) ?_
    rotate_left
    · (intro w hSw; (try dsimp only at hSw); go_simp; all_goals with_reducible rfl)
    try simp only [Act.put, List.getElem_toArray, List.getElem_cons_zero, List.getElem_cons_succ, List.setIfInBounds_toArray, List.set_cons_zero, List.set_cons_succ]
    refine wpAnyH_take (i := 16) (v := ?_) rfl (by kernel_rfl) (by kernel_rfl) (by kernel_rfl) (fun _ _ _ h => h) (Or.inl ⟨by rfl, ?_⟩) (by assumption) ?_
    rotate_left
    · (intro w hSw; (try dsimp only at hSw); go_simp; all_goals with_reducible rfl)
    try simp only [Act.put, List.getElem_toArray, List.getElem_cons_zero, List.getElem_cons_succ, List.setIfInBounds_toArray, List.set_cons_zero, List.set_cons_succ]
    refine wpAnyH_take (i := 17) (v := ?_) rfl (by kernel_rfl) (by kernel_rfl) (by kernel_rfl) (fun _ _ _ h => h) (Or.inl ⟨by rfl, ?_⟩) (by assumption) ?_
    rotate_left
    · (intro w hSw; (try dsimp only at hSw); go_simp; all_goals with_reducible rfl)
    try simp only [Act.put, List.getElem_toArray, List.getElem_cons_zero, List.getElem_cons_succ, List.setIfInBounds_toArray, List.set_cons_zero, List.set_cons_succ]
    refine wpAnyH_take (i := 18) (v := ?_) rfl (by kernel_rfl) (by kernel_rfl) (by kernel_rfl) (fun _ _ _ h => h) (Or.inl ⟨by rfl, ?_⟩) (by assumption) ?_
    rotate_left
    · (intro w hSw; (try dsimp only at hSw); go_simp; all_goals with_reducible rfl)
    try simp only [Act.put, List.getElem_toArray, List.getElem_cons_zero, List.getElem_cons_succ, List.setIfInBounds_toArray, List.set_cons_zero, List.set_cons_succ]
    refine wpAnyH_take (i := 20) (v := ?_) rfl (by kernel_rfl) (by kernel_rfl) (by kernel_rfl) (fun _ _ _ h => h) (Or.inl ⟨by rfl, ?_⟩) (by assumption) ?_
    rotate_left
    · (intro w hSw; (try dsimp only at hSw); go_simp; all_goals with_reducible rfl)
    try simp only [Act.put, List.getElem_toArray, List.getElem_cons_zero, List.getElem_cons_succ, List.setIfInBounds_toArray, List.set_cons_zero, List.set_cons_succ]
    refine wpAnyH_take (i := 21) (v := ?_) rfl (by kernel_rfl) (by kernel_rfl) (by kernel_rfl) (fun _ _ _ h => h) (Or.inl ⟨by rfl, ?_⟩) (by assumption) ?_
    rotate_left
    · (intro w hSw; (try dsimp only at hSw); go_simp; all_goals with_reducible rfl)
    try simp only [Act.put, List.getElem_toArray, List.getElem_cons_zero, List.getElem_cons_succ, List.setIfInBounds_toArray, List.set_cons_zero, List.set_cons_succ]
    refine wpAnyH_ready (rs := [19]) (by kernel_rfl) (by simp) ?_
    refine AllReadyH.cons rfl (fun K hK => ?_) AllReadyH.nil
    go_simp
    go_at_call 22
    refine ((HM.out _ (bt HK.out hb1_w25)).1).mono ?_
    rintro e w26 ⟨n26, A26, c26, l26, rfl, i26, hb26⟩
    have hb1_w26 : Below w10.heap.size w10 w26 := bt hb1_w25 hb26
    have I26 := Lib.hid i26
    clear i26 hb26
    clear hHeld
    refine hK.out _ _ (HSS.out _ hb1_w26) (fun hHeld => ?_)
    clear hK K
    try simp only [Act.put, List.getElem_toArray, List.getElem_cons_zero, List.getElem_cons_succ, List.setIfInBounds_toArray, List.set_cons_zero, List.set_cons_succ]
    refine wpAnyH_ready (rs := [22]) (by kernel_rfl) (by simp) ?_
    refine AllReadyH.cons rfl (fun K hK => ?_) AllReadyH.nil
    go_simp
    go_at_call 23
    refine ((HM.out _ (bt HK.out hb1_w26)).2).mono ?_
    rintro e w27 ⟨n27, A27, c27, l27, rfl, i27, hb27⟩
    have hb1_w27 : Below w10.heap.size w10 w27 := bt hb1_w26 hb27
    have J27 := Lib.hid (I26.out.below hb27)
    have I27 := Lib.hid i27
    clear i27 hb27
    clear hHeld
    refine hK.out _ _ (HSS.out _ hb1_w27) (fun hHeld => ?_)
    clear hK K
    try simp only [Act.put, List.getElem_toArray, List.getElem_cons_zero, List.getElem_cons_succ, List.setIfInBounds_toArray, List.set_cons_zero, List.set_cons_succ]
    refine wpAnyH_ready (rs := [23]) (by kernel_rfl) (by simp) ?_
    refine AllReadyH.cons rfl (fun K hK => ?_) AllReadyH.nil
    go_simp
    go_at_call 17
    refine (Same_iv J27.out I27.out).mono ?_
    rintro e w28 ⟨rfl, hb28⟩
    have hb1_w28 : Below w10.heap.size w10 w28 := bt hb1_w27 hb28
    clear hb28
    clear hHeld
    refine hK.out _ _ (HSS.out _ hb1_w28) (fun hHeld => ?_)
    clear hK K
    try simp only [Act.put, List.getElem_toArray, List.getElem_cons_zero, List.getElem_cons_succ, List.setIfInBounds_toArray, List.set_cons_zero, List.set_cons_succ]
    refine wpAnyH_take (i := 24) (v := ?_) rfl (by kernel_rfl) (by kernel_rfl) (by kernel_rfl) (fun _ _ _ h => h) (Or.inl ⟨by rfl, ?_⟩) (by assumption) ?_
    rotate_left
    · (intro w hSw; (try dsimp only at hSw); go_simp; all_goals with_reducible rfl)
    try simp only [Act.put, List.getElem_toArray, List.getElem_cons_zero, List.getElem_cons_succ, List.setIfInBounds_toArray, List.set_cons_zero, List.set_cons_succ]
    refine wpAnyH_ready (rs := [25]) (by kernel_rfl) (by simp) ?_
    refine AllReadyH.cons rfl (fun K hK => ?_) AllReadyH.nil
    go_simp
    refine hK.out _ _ (by assumption) (fun hHeld2 => ?_)
    clear hK K hHeld2
    try simp only [Act.put, List.getElem_toArray, List.getElem_cons_zero, List.getElem_cons_succ, List.setIfInBounds_toArray, List.set_cons_zero, List.set_cons_succ]
    refine wpAnyH_done (by kernel_rfl) ?_ _
    clear hHeld HSS
    go_wp2_with fail
    go_meet
    exact ⟨rfl, hb1_w28⟩
  case rest =>
  obtain ⟨rfl, hcb⟩ := hcut
  obtain ⟨wc7, hwn⟩ : ∃ v, v = wc := ⟨_, rfl⟩
  rw [← hwn] at hcb ⊢
  have hb1_wc7 := hcb
  clear hwn wc hcb
  go_upto_region 8 with fail
  go_cut [20] (fun v wx => v = .bool true ∧ Below w10.heap.size w10 wx)
  case first =>
    as_aux_lemma =>
    have HSS := Lib.hid (fun W (hb : Below w10.heap.size w10 W) => (show W.cell? ⟨w.heap.size, 0, none⟩ = some (.bool na) ∧ W.cell? ⟨w.heap.size, 1, none⟩ = some (.slice A la.length ca) ∧ W.cell? ⟨w.heap.size + 1, 0, none⟩ = some (.bool nb) ∧ W.cell? ⟨w.heap.size + 1, 1, none⟩ = some (.slice B lb.length cb) ∧ W.cell? ⟨w3.heap.size, 0, none⟩ = some (.bool nq1) ∧ W.cell? ⟨w3.heap.size, 1, none⟩ = some (.slice Aq1 lq1.length cq1) ∧ W.cell? ⟨w5.heap.size, 0, none⟩ = some (.bool ns1) ∧ W.cell? ⟨w5.heap.size, 1, none⟩ = some (.slice As1 ls1.length cs1) ∧ W.cell? ⟨w3.heap.size + 1, 0, none⟩ = some (.bool nq2) ∧ W.cell? ⟨w3.heap.size + 1, 1, none⟩ = some (.slice Aq2 lq2.length cq2) ∧ W.cell? ⟨w5.heap.size + 1, 0, none⟩ = some (.bool ns2) ∧ W.cell? ⟨w5.heap.size + 1, 1, none⟩ = some (.slice As2 ls2.length cs2) from ⟨cell_below Y10.cell0 hb, cell_below Y10.cell1 hb, cell_below Z10.cell0 hb, cell_below Z10.cell1 hb, cell_below Xq1.cell0 hb, cell_below Xq1.cell1 hb, cell_below Xs1.cell0 hb, cell_below Xs1.cell1 hb, cell_below Xq2.cell0 hb, cell_below Xq2.cell1 hb, cell_below Xs2.cell0 hb, cell_below Xs2.cell1 hb⟩))
    refine wp_region_held_drew (S := fun W => W.cell? ⟨w.heap.size, 0, none⟩ = some (.bool na) ∧ W.cell? ⟨w.heap.size, 1, none⟩ = some (.slice A la.length ca) ∧ W.cell? ⟨w.heap.size + 1, 0, none⟩ = some (.bool nb) ∧ W.cell? ⟨w.heap.size + 1, 1, none⟩ = some (.slice B lb.length cb) ∧ W.cell? ⟨w3.heap.size, 0, none⟩ = some (.bool nq1) ∧ W.cell? ⟨w3.heap.size, 1, none⟩ = some (.slice Aq1 lq1.length cq1) ∧ W.cell? ⟨w5.heap.size, 0, none⟩ = some (.bool ns1) ∧ W.cell? ⟨w5.heap.size, 1, none⟩ = some (.slice As1 ls1.length cs1) ∧ W.cell? ⟨w3.heap.size + 1, 0, none⟩ = some (.bool nq2) ∧ W.cell? ⟨w3.heap.size + 1, 1, none⟩ = some (.slice Aq2 lq2.length cq2) ∧ W.cell? ⟨w5.heap.size + 1, 0, none⟩ = some (.bool ns2) ∧ W.cell? ⟨w5.heap.size + 1, 1, none⟩ = some (.slice As2 ls2.length cs2)) (by kernel_rfl) (HSS.out _ (bw (hb1_wc7))) (fun hHeld => ?_)
    obtain ⟨wd2, hwd2⟩ : ∃ W, W = wc7.drew := ⟨_, rfl⟩
    have hb1_wd2 : Below w10.heap.size w10 wd2 := by rw [hwd2]; exact bw (hb1_wc7)
    rw [← hwd2] at hHeld ⊢
    clear hwd2
    refine wpAnyH_take (i := 0) (v := ?_) rfl (by kernel_rfl) (by kernel_rfl) (by kernel_rfl) (fun _ _ _ h => h) (Or.inl ⟨by rfl, ?_⟩) (by assumption) ?_
    rotate_left
    · (intro w hSw; (try dsimp only at hSw); go_simp; all_goals with_reducible rfl)
    try simp only [Act.put, List.getElem_toArray, List.getElem_cons_zero, List.getElem_cons_succ, List.setIfInBounds_toArray, List.set_cons_zero, List.set_cons_succ]
    refine wpAnyH_take (i := 1) (v := ?_) rfl (by kernel_rfl) (by kernel_rfl) (by kernel_rfl) (fun _ _ _ h => h) (Or.inl ⟨by rfl, ?_⟩) (by assumption) ?_
    rotate_left
    · (intro w hSw; (try dsimp only at hSw); go_simp; all_goals with_reducible rfl)
    try simp only [Act.put, List.getElem_toArray, List.getElem_cons_zero, List.getElem_cons_succ, List.setIfInBounds_toArray, List.set_cons_zero, List.set_cons_succ]
    refine wpAnyH_ready (rs := [2]) (by kernel_rfl) (by simp) ?_
    refine AllReadyH.cons rfl (fun K hK => ?_) AllReadyH.nil
    go_simp
    go_at_call 17
    refine (Same_iv (Iq1.out.below hb1_wd2) (Is1.out.below hb1_wd2)).mono ?_
    rintro e w29 ⟨rfl, hb29⟩
    have hb1_w29 : Below w10.heap.size w10 w29 := bt hb1_wd2 hb29
    clear hb29
    clear hHeld
    refine hK.out _ _ (HSS.out _ hb1_w29) (fun hHeld => ?_)
    clear hK K
    try simp only [Act.put, List.getElem_toArray, List.getElem_cons_zero, List.getElem_cons_succ, List.setIfInBounds_toArray, List.set_cons_zero, List.set_cons_succ]
    refine wpAnyH_take (i := 3) (v := ?_) rfl (by kernel_rfl) (by kernel_rfl) (by kernel_rfl) (fun _ _ _ h => h) (Or.inl ⟨by rfl, ?_⟩) (by assumption) ?_
    rotate_left
    · (intro w hSw; (try dsimp only at hSw); go_simp; all_goals with_reducible rfl)
    try simp only [Act.put, List.getElem_toArray, List.getElem_cons_zero, List.getElem_cons_succ, List.setIfInBounds_toArray, List.set_cons_zero, List.set_cons_succ]
    refine wpAnyH_take (i := 4) (v := ?_) rfl (by kernel_rfl) (by kernel_rfl) (by kernel_rfl) (fun _ _ _ h => h) (Or.inl ⟨by rfl, ?_⟩) (by assumption) ?_
    rotate_left
    · (intro w hSw; (try dsimp only at hSw); go_simp; all_goals with_reducible rfl)
    try simp only [Act.put, List.getElem_toArray, List.getElem_cons_zero, List.getElem_cons_succ, List.setIfInBounds_toArray, List.set_cons_zero, List.set_cons_succ]
    refine wpAnyH_take (i := 5) (v := ?_) rfl (by kernel_rfl) (by kernel_rfl) (by kernel_rfl) (fun _ _ _ h => h) (Or.inl ⟨by rfl, ?_⟩) (by assumption) ?_
    rotate_left
    · (intro w hSw; (try dsimp only at hSw); go_simp; all_goals with_reducible rfl)
    try simp only [Act.put, List.getElem_toArray, List.getElem_cons_zero, List.getElem_cons_succ, List.setIfInBounds_toArray, List.set_cons_zero, List.set_cons_succ]
    refine wpAnyH_ready (rs := [6]) (by kernel_rfl) (by simp) ?_
    refine AllReadyH.cons rfl (fun K hK => ?_) AllReadyH.nil
    go_simp
    go_at_call 17
    refine (Same_iv (Iq2.out.below hb1_w29) (Is2.out.below hb1_w29)).mono ?_
    rintro e w30 ⟨rfl, hb30⟩
    have hb1_w30 : Below w10.heap.size w10 w30 := bt hb1_w29 hb30
    clear hb30
    clear hHeld
    refine hK.out _ _ (HSS.out _ hb1_w30) (fun hHeld => ?_)
    clear hK K
    try simp only [Act.put, List.getElem_toArray, List.getElem_cons_zero, List.getElem_cons_succ, List.setIfInBounds_toArray, List.set_cons_zero, List.set_cons_succ]
    refine wpAnyH_take (i := 7) (v := ?_) rfl (by kernel_rfl) (by kernel_rfl) (by kernel_rfl) (fun _ _ _ h => h) (Or.inl ⟨by rfl, ?_⟩) (by assumption) ?_
    rotate_left
    · (intro w hSw; (try dsimp only at hSw); go_simp; all_goals with_reducible rfl)
    try simp only [Act.put, List.getElem_toArray, List.getElem_cons_zero, List.getElem_cons_succ, List.setIfInBounds_toArray, List.set_cons_zero, List.set_cons_succ]
    refine wpAnyH_take (i := 8) (v := ?_) rfl (by kernel_rfl) (by kernel_rfl) (by kernel_rfl) (fun _ _ _ h => h) (Or.inl ⟨by rfl, ?_⟩) (by assumption) ?_
    rotate_left
    · (intro w hSw; (try dsimp only at hSw); go_simp; all_goals with_reducible rfl)
    try simp only [Act.put, List.getElem_toArray, List.getElem_cons_zero, List.getElem_cons_succ, List.setIfInBounds_toArray, List.set_cons_zero, List.set_cons_succ]
    refine wpAnyH_take (i := 9) (v := ?_) rfl (by kernel_rfl) (by kernel_rfl) (by kernel_rfl) (fun _ _ _ h => h) (Or.inl ⟨by rfl, ?_⟩) (by assumption) ?_
    rotate_left
    · (intro w hSw; (try dsimp only at hSw); go_simp; all_goals with_reducible rfl)
    try simp only [Act.put, List.getElem_toArray, List.getElem_cons_zero, List.getElem_cons_succ, List.setIfInBounds_toArray, List.set_cons_zero, List.set_cons_succ]
    refine wpAnyH_take (i := 10) (v := ?_) rfl (by kernel_rfl) (by kernel_rfl) (by kernel_rfl) (fun _ _ _ h => h) (Or.inl ⟨by rfl, ?_⟩) (by assumption) ?_
    rotate_left
    · (intro w hSw; (try dsimp only at hSw); go_simp; all_goals with_reducible rfl)
    try simp only [Act.put, List.getElem_toArray, List.getElem_cons_zero, List.getElem_cons_succ, List.setIfInBounds_toArray, List.set_cons_zero, List.set_cons_succ]
    refine wpAnyH_take (i := 11) (v := ?_) rfl (by kernel_rfl) (by kernel_rfl) (by kernel_rfl) (fun _ _ _ h => h) (Or.inl ⟨by rfl, ?_⟩) (by assumption) ?_
    rotate_left
    · (intro w hSw; (try dsimp only at hSw); go_simp; all_goals with_reducible rfl)
    try simp only [Act.put, List.getElem_toArray, List.getElem_cons_zero, List.getElem_cons_succ, List.setIfInBounds_toArray, List.set_cons_zero, List.set_cons_succ]
    refine wpAnyH_take (i := 12) (v := ?_) rfl (by kernel_rfl) (by kernel_rfl) (by kernel_rfl) (fun _ _ _ h => h) (Or.inl ⟨by rfl, ?_⟩) (by assumption) ?_
    rotate_left
    · (intro w hSw; (try dsimp only at hSw); go_simp; all_goals with_reducible rfl)
    try simp only [Act.put, List.getElem_toArray, List.getElem_cons_zero, List.getElem_cons_succ, List.setIfInBounds_toArray, List.set_cons_zero, List.set_cons_succ]
    refine wpAnyH_take (i := 13) (v := ?_) rfl (by kernel_rfl) (by kernel_rfl) (by kernel_rfl) (fun _ _ _ h => h) (Or.inl ⟨by rfl, ?_⟩) (by assumption) ?_
    rotate_left
    · (intro w hSw; (try dsimp only at hSw); go_simp; all_goals with_reducible rfl)
    try simp only [Act.put, List.getElem_toArray, List.getElem_cons_zero, List.getElem_cons_succ, List.setIfInBounds_toArray, List.set_cons_zero, List.set_cons_succ]
    refine wpAnyH_take (i := 14) (v := ?_) rfl (by kernel_rfl) (by kernel_rfl) (by kernel_rfl) (fun _ _ _ h => h) (Or.inl ⟨by rfl, ?_⟩) (by assumption) ?_
    rotate_left
    · (intro w hSw; (try dsimp only at hSw); go_simp; all_goals with_reducible rfl)
    try simp only [Act.put, List.getElem_toArray, List.getElem_cons_zero, List.getElem_cons_succ, List.setIfInBounds_toArray, List.set_cons_zero, List.set_cons_succ]
    refine wpAnyH_take (i := 15) (v := ?_) rfl (by kernel_rfl) (by kernel_rfl) (by kernel_rfl) (fun _ _ _ h => h) (Or.inl ⟨by rfl, ?_⟩) (by assumption) ?_
    rotate_left
    · (intro w hSw; (try dsimp only at hSw); go_simp; all_goals with_reducible rfl)
    try simp only [Act.put, List.getElem_toArray, List.getElem_cons_zero, List.getElem_cons_succ, List.setIfInBounds_toArray, List.set_cons_zero, List.set_cons_succ]
    refine wpAnyH_take (i := 17) (v := ?_) rfl (by kernel_rfl) (by kernel_rfl) (by kernel_rfl) (fun _ _ _ h => h) (Or.inl ⟨by rfl, ?_⟩) (by assumption) ?_
    rotate_left
    · (intro w hSw; (try dsimp only at hSw); go_simp; all_goals with_reducible rfl)
    try simp only [Act.put, List.getElem_toArray, List.getElem_cons_zero, List.getElem_cons_succ, List.setIfInBounds_toArray, List.set_cons_zero, List.set_cons_succ]
    refine wpAnyH_take (i := 18) (v := ?_) rfl (by kernel_rfl) (by kernel_rfl) (by kernel_rfl) (fun _ _ _ h => h) (Or.inl ⟨by rfl, ?_⟩) (by assumption) ?_
    rotate_left
    · (intro w hSw; (try dsimp only at hSw); go_simp; all_goals with_reducible rfl)
    try simp only [Act.put, List.getElem_toArray, List.getElem_cons_zero, List.getElem_cons_succ, List.setIfInBounds_toArray, List.set_cons_zero, List.set_cons_succ]
    refine wpAnyH_ready (rs := [16]) (by kernel_rfl) (by simp) ?_
    refine AllReadyH.cons rfl (fun K hK => ?_) AllReadyH.nil
    go_simp
    go_at_call 24
    refine ((HG.out _ (bt HK.out hb1_w30)).1).mono ?_
    rintro e w31 ⟨n31, A31, c31, l31, rfl, i31, hb31⟩
    have hb1_w31 : Below w10.heap.size w10 w31 := bt hb1_w30 hb31
    have I31 := Lib.hid i31
    clear i31 hb31
    clear hHeld
    refine hK.out _ _ (HSS.out _ hb1_w31) (fun hHeld => ?_)
    clear hK K
    try simp only [Act.put, List.getElem_toArray, List.getElem_cons_zero, List.getElem_cons_succ, List.setIfInBounds_toArray, List.set_cons_zero, List.set_cons_succ]
    refine wpAnyH_ready (rs := [19]) (by kernel_rfl) (by simp) ?_
    refine AllReadyH.cons rfl (fun K hK => ?_) AllReadyH.nil
    go_simp
    go_at_call 25
    refine ((HG.out _ (bt HK.out hb1_w31)).2).mono ?_
    rintro e w32 ⟨n32, A32, c32, l32, rfl, i32, hb32⟩
    have hb1_w32 : Below w10.heap.size w10 w32 := bt hb1_w31 hb32
    have J32 := Lib.hid (I31.out.below hb32)
    have I32 := Lib.hid i32
    clear i32 hb32
    clear hHeld
    refine hK.out _ _ (HSS.out _ hb1_w32) (fun hHeld => ?_)
    clear hK K
    try simp only [Act.put, List.getElem_toArray, List.getElem_cons_zero, List.getElem_cons_succ, List.setIfInBounds_toArray, List.set_cons_zero, List.set_cons_succ]
    refine wpAnyH_ready (rs := [20]) (by kernel_rfl) (by simp) ?_
    refine AllReadyH.cons rfl (fun K hK => ?_) AllReadyH.nil
    go_simp
    go_at_call 17
    refine (Same_iv J32.out I32.out).mono ?_
    rintro e w33 ⟨rfl, hb33⟩
    have hb1_w33 : Below w10.heap.size w10 w33 := bt hb1_w32 hb33
    clear hb33
    clear hHeld
    refine hK.out _ _ (HSS.out _ hb1_w33) (fun hHeld => ?_)
    clear hK K
    try simp only [Act.put, List.getElem_toArray, List.getElem_cons_zero, List.getElem_cons_succ, List.setIfInBounds_toArray, List.set_cons_zero, List.set_cons_succ]
    refine wpAnyH_take (i := 21) (v := ?_) rfl (by kernel_rfl) (by kernel_rfl) (by kernel_rfl) (fun _ _ _ h => h) (Or.inl ⟨by rfl, ?_⟩) (by assumption) ?_
    rotate_left
    · (intro w hSw; (try dsimp only at hSw); go_simp; all_goals with_reducible rfl)
    try simp only [Act.put, List.getElem_toArray, List.getElem_cons_zero, List.getElem_cons_succ, List.setIfInBounds_toArray, List.set_cons_zero, List.set_cons_succ]
    refine wpAnyH_ready (rs := [22]) (by kernel_rfl) (by simp) ?_
    refine AllReadyH.cons rfl (fun K hK => ?_) AllReadyH.nil
    go_simp
    refine hK.out _ _ (by assumption) (fun hHeld2 => ?_)
    clear hK K hHeld2
    try simp only [Act.put, List.getElem_toArray, List.getElem_cons_zero, List.getElem_cons_succ, List.setIfInBounds_toArray, List.set_cons_zero, List.set_cons_succ]
    refine wpAnyH_done (by kernel_rfl) ?_ _
    clear hHeld HSS
    go_wp2_with fail
    go_meet
    exact ⟨rfl, hb1_w33⟩
  case rest =>
  obtain ⟨rfl, hcb⟩ := hcut
  obtain ⟨wc8, hwn⟩ : ∃ v, v = wc := ⟨_, rfl⟩
  rw [← hwn] at hcb ⊢
  have hb1_wc8 := hcb
  clear hwn wc hcb
  go_wp2_with fail
  refine (sane_any wc8 (HTn.out.below (bt HK.out hb1_wc8))).mono ?_
  rintro e w80 ⟨rfl, hb80⟩
  have hc80 := bt hb1_wc8 hb80
  have e0 := cell_below Xg1.cell0 hc80
  have e1 := cell_below Xg1.cell1 hc80
  have e2 := cell_below Xk1.cell0 hc80
  have e3 := cell_below Xk1.cell1 hc80
  go_wp2_with fail
  refine (Same_iv (Ig1.out.below hc80) (Ik1.out.below hc80)).mono ?_
  rintro e w81 ⟨rfl, hb81⟩
  have hc81 := bt hc80 hb81
  clear e0 e1 e2 e3 hb81
  have e0 := cell_below Xg2.cell0 hc81
  have e1 := cell_below Xg2.cell1 hc81
  have e2 := cell_below Xk2.cell0 hc81
  have e3 := cell_below Xk2.cell1 hc81
  go_wp2_with fail
  refine (Same_iv (Ig2.out.below hc81) (Ik2.out.below hc81)).mono ?_
  rintro e w82 ⟨rfl, hb82⟩
  have hc82 := bt hc81 hb82
  clear e0 e1 e2 e3 hb82
  have e0 := cell_below Xg3.cell0 hc82
  have e1 := cell_below Xg3.cell1 hc82
  have e2 := cell_below Xk3.cell0 hc82
  have e3 := cell_below Xk3.cell1 hc82
  go_wp2_with fail
  refine (Same_iv (Ig3.out.below hc82) (Ik3.out.below hc82)).mono ?_
  rintro e w83 ⟨rfl, hb83⟩
  have hc83 := bt hc82 hb83
  clear e0 e1 e2 e3 hb83
  go_wp2_with fail
  go_ret
  exact ⟨rfl, bt HK.out hc83⟩

theorem NumArithmetic_walk (w : World) (na nb : Bool) (A B : Option Addr) (ca cb : Nat) (la lb : List Nat) (hl : WS w A la) (hk : WS w B lb) (hca : la.length ≤ ca) (hcb : lb.length ≤ cb) (hT : Tens w) :
    Calls Tryz.prog 3 #[.agg #[.bool na, .slice A la.length ca], .agg #[.bool nb, .slice B lb.length cb]] w fun e w' => e = .returned (.bool true) ∧ Below w.heap.size w w' := by
  by_cases h : la.length ≤ 40 ∧ lb.length ≤ 40
  · exact NumArithmetic_main w na nb A B ca cb la lb hl hk hca hcb h.1 h.2 hT
  · exact NumArithmetic_long w na nb A B la.length ca lb.length cb h hT
end Go.Proofs.YtgljdfblgpdaaaaGreatDoor
