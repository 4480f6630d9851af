/- Errors and small powers: the specification's Pow and Sqrt, num.Pow. -/
import Derived.Test.YtlloilbinobljaaGreatDoorNumSqRt
set_option linter.unusedSimpArgs false
set_option linter.unusedVariables false
namespace Go.Proofs.YtlloilbinobljaaGreatDoor
open Go.RowKit Go.Shelf

set_option maxRecDepth 100000 in
set_option maxHeartbeats 1000000 in
theorem RSqrt_form (w : World) (neg : Bool) (A : Option Addr) (c : Nat) (l : List Nat)  (hm : l.length ≤ 1000000) (hB : isB neg l = false) (hl : WS w A l) :
    Calls Tryz.prog 28 #[.agg #[.bool neg, .slice A l.length c]] w (ErrE 3 w) := by
  have HB := Lib.hid hB
  clear hB
  go_enter Tryz.func28, Tryz.ntmps28
  go_wp2_with fail
  refine (RIs_any neg A _ c l _ rfl (by omega) (hl.below (ba (ba (b0 _) _) _))).mono ?_
  rintro e w1 ⟨rfl, hb⟩
  rw [HB.out]
  have hbx := (Box2.new (w.alloc (.cells #[.bool neg, .slice A l.length c] 24)) (.bool false) (.slice none 0 0)).below hb
  rw [World.size_alloc] at hbx
  have hby := ((Box2.new w (.bool neg) (.slice A l.length c)).alloc (.cells #[.bool false, .slice none 0 0] 24)).below hb
  have hK := bt (ba (ba (b0 w) _) _) hb
  have y0 := hby.cell0
  have y1 := hby.cell1
  have x0 := hbx.cell0
  have x1 := hbx.cell1
  have f0 := hbx.free 0
  have f1 := hbx.free 1
  obtain ⟨k0, k1, k2⟩ := hbx.back (.bool false) (.slice none 0 0)
  go_wp2_with fail
  refine bodyPost_ret (v := .tuple #[.agg #[.bool false, .slice none 0 0], .int .i64 3]) (by simp [results, Tryz.results28, go_sem, k0, k2]) rfl ?_
  exact ⟨rfl, b2 hK (by omega) _ _⟩

set_option maxRecDepth 100000 in
set_option maxHeartbeats 1000000 in
theorem RSqrt_arg (w : World) (A : Option Addr) (c : Nat) (l : List Nat)  (hm : l.length ≤ 1000000) (hB : isB true l = true) (hl : WS w A l) :
    Calls Tryz.prog 28 #[.agg #[.bool true, .slice A l.length c]] w (ErrE 1 w) := by
  have HB := Lib.hid hB
  clear hB
  go_enter Tryz.func28, Tryz.ntmps28
  go_wp2_with fail
  refine (RIs_any true A _ c l _ rfl (by omega) (hl.below (ba (ba (b0 _) _) _))).mono ?_
  rintro e w1 ⟨rfl, hb⟩
  rw [HB.out]
  have hbx := (Box2.new (w.alloc (.cells #[.bool true, .slice A l.length c] 24)) (.bool false) (.slice none 0 0)).below hb
  rw [World.size_alloc] at hbx
  have hby := ((Box2.new w (.bool true) (.slice A l.length c)).alloc (.cells #[.bool false, .slice none 0 0] 24)).below hb
  have hK := bt (ba (ba (b0 w) _) _) hb
  have y0 := hby.cell0
  have y1 := hby.cell1
  have x0 := hbx.cell0
  have x1 := hbx.cell1
  have f0 := hbx.free 0
  have f1 := hbx.free 1
  obtain ⟨k0, k1, k2⟩ := hbx.back (.bool false) (.slice none 0 0)
  go_wp2_with fail
  refine bodyPost_ret (v := .tuple #[.agg #[.bool false, .slice none 0 0], .int .i64 1]) (by simp [results, Tryz.results28, go_sem, k0, k2]) rfl ?_
  exact ⟨rfl, b2 hK (by omega) _ _⟩

set_option maxRecDepth 100000 in
set_option maxHeartbeats 1000000 in
theorem RPow_form (w : World) (neg : Bool) (A : Option Addr) (c : Nat) (l : List Nat) (n : Int) (hm : l.length ≤ 1000000) (hB : isB neg l = false) (hl : WS w A l) :
    Calls Tryz.prog 31 #[.agg #[.bool neg, .slice A l.length c], .int .i64 n] w (ErrE 3 w) := by
  have HB := Lib.hid hB
  clear hB
  go_enter Tryz.func31, Tryz.ntmps31
  go_wp2_with fail
  refine (RIs_any neg A _ c l _ rfl (by omega) (hl.below (ba (ba (b0 _) _) _))).mono ?_
  rintro e w1 ⟨rfl, hb⟩
  rw [HB.out]
  have hbx := (Box2.new (w.alloc (.cells #[.bool neg, .slice A l.length c] 24)) (.bool false) (.slice none 0 0)).below hb
  rw [World.size_alloc] at hbx
  have hby := ((Box2.new w (.bool neg) (.slice A l.length c)).alloc (.cells #[.bool false, .slice none 0 0] 24)).below hb
  have hK := bt (ba (ba (b0 w) _) _) hb
  have y0 := hby.cell0
  have y1 := hby.cell1
  have x0 := hbx.cell0
  have x1 := hbx.cell1
  have f0 := hbx.free 0
  have f1 := hbx.free 1
  obtain ⟨k0, k1, k2⟩ := hbx.back (.bool false) (.slice none 0 0)
  go_wp2_with fail
  refine bodyPost_ret (v := .tuple #[.agg #[.bool false, .slice none 0 0], .int .i64 3]) (by simp [results, Tryz.results31, go_sem, k0, k2]) rfl ?_
  exact ⟨rfl, b2 hK (by omega) _ _⟩

set_option maxRecDepth 100000 in
set_option maxHeartbeats 1000000 in
theorem RPow_arg (w : World) (neg : Bool) (A : Option Addr) (c : Nat) (l : List Nat) (n : Int) (hn : n < 0) (hm : l.length ≤ 1000000) (hB : isB neg l = true) (hl : WS w A l) :
    Calls Tryz.prog 31 #[.agg #[.bool neg, .slice A l.length c], .int .i64 n] w (ErrE 1 w) := by
  have HB := Lib.hid hB
  clear hB
  go_enter Tryz.func31, Tryz.ntmps31
  go_wp2_with fail
  refine (RIs_any neg A _ c l _ rfl (by omega) (hl.below (ba (ba (b0 _) _) _))).mono ?_
  rintro e w1 ⟨rfl, hb⟩
  rw [HB.out]
  have hbx := (Box2.new (w.alloc (.cells #[.bool neg, .slice A l.length c] 24)) (.bool false) (.slice none 0 0)).below hb
  rw [World.size_alloc] at hbx
  have hby := ((Box2.new w (.bool neg) (.slice A l.length c)).alloc (.cells #[.bool false, .slice none 0 0] 24)).below hb
  have hK := bt (ba (ba (b0 w) _) _) hb
  have y0 := hby.cell0
  have y1 := hby.cell1
  have x0 := hbx.cell0
  have x1 := hbx.cell1
  have f0 := hbx.free 0
  have f1 := hbx.free 1
  obtain ⟨k0, k1, k2⟩ := hbx.back (.bool false) (.slice none 0 0)
  go_wp2_with fail
  refine bodyPost_ret (v := .tuple #[.agg #[.bool false, .slice none 0 0], .int .i64 1]) (by simp [results, Tryz.results31, go_sem, k0, k2]) rfl ?_
  exact ⟨rfl, b2 hK (by omega) _ _⟩

set_option maxRecDepth 100000 in
set_option maxHeartbeats 1000000 in
theorem RPow_limit (w : World) (neg : Bool) (A : Option Addr) (c : Nat) (l : List Nat) (n : Int) (h1 : 1 < bl l) (h2 : (1048576 / bl l : Nat) < n) (hm : l.length ≤ 1000000) (hB : isB neg l = true) (hl : WS w A l) :
    Calls Tryz.prog 31 #[.agg #[.bool neg, .slice A l.length c], .int .i64 n] w (ErrE 2 w) := by
  have HB := Lib.hid hB
  obtain ⟨m, hme⟩ : ∃ m, m = bl l := ⟨_, rfl⟩
  rw [← hme] at h1 h2
  have hbi : (1 : Int) < (m : Int) := by omega
  have hm0 : ((m : Int) == 0) = false := beq_eq_false_iff_ne.2 (by omega)
  obtain ⟨d, hd⟩ : ∃ d, d = 1048576 / m := ⟨_, rfl⟩
  have hdiv : (1048576 : Int).tdiv (m : Int) = (d : Int) := by rw [Int.tdiv_eq_ediv_of_nonneg (by omega), hd]; simp
  have hng : (d : Int) < n := by rw [hd]; exact h2
  have hdl : d ≤ 1048576 := by rw [hd]; exact Nat.div_le_self _ _
  have hnn : ¬ n < 0 := by omega
  have HBI : Hid (∀ W, Below w.heap.size w W → Calls Tryz.prog 29 #[.agg #[.bool neg, .slice A l.length c]] W fun e w' => e = .returned (.int .i64 (m : Int)) ∧ Below W.heap.size W w') := Lib.hid (fun W hW => by
    have r := RBits_any neg A l.length c l true W rfl (by omega) (hl.below hW) hB
    rw [if_pos rfl, ← hme] at r
    exact r)
  clear hme hd h1 h2
  clear hB
  go_enter Tryz.func31, Tryz.ntmps31
  go_wp2_with fail
  refine (RIs_any neg A _ c l _ rfl (by omega) (hl.below (ba (ba (b0 _) _) _))).mono ?_
  rintro e w1 ⟨rfl, hb⟩
  rw [HB.out]
  have hbx := (Box2.new (w.alloc (.cells #[.bool neg, .slice A l.length c] 24)) (.bool false) (.slice none 0 0)).below hb
  rw [World.size_alloc] at hbx
  have hby := ((Box2.new w (.bool neg) (.slice A l.length c)).alloc (.cells #[.bool false, .slice none 0 0] 24)).below hb
  have hK := bt (ba (ba (b0 w) _) _) hb
  have y0 := hby.cell0
  have y1 := hby.cell1
  go_wp2_with fail
  refine (HBI.out w1 hK).mono ?_
  rintro e w2 ⟨rfl, hb2⟩
  replace hbx := hbx.below hb2
  replace hby := hby.below hb2
  replace hK := bt hK hb2
  clear y0 y1 hb2
  obtain ⟨w1, hw1⟩ : ∃ v, v = w2 := ⟨_, rfl⟩
  rw [← hw1] at hbx hby hK ⊢
  clear hw1 w2
  have y0 := hby.cell0
  have y1 := hby.cell1
  go_wp2_with fail
  refine (HBI.out w1 hK).mono ?_
  rintro e w2 ⟨rfl, hb2⟩
  replace hbx := hbx.below hb2
  replace hby := hby.below hb2
  replace hK := bt hK hb2
  clear y0 y1 hb2
  obtain ⟨w1, hw1⟩ : ∃ v, v = w2 := ⟨_, rfl⟩
  rw [← hw1] at hbx hby hK ⊢
  clear hw1 w2
  have y0 := hby.cell0
  have y1 := hby.cell1
  have x0 := hbx.cell0
  have x1 := hbx.cell1
  have f0 := hbx.free 0
  have f1 := hbx.free 1
  obtain ⟨k0, k1, k2⟩ := hbx.back (.bool false) (.slice none 0 0)
  go_wp2_with fail
  refine bodyPost_ret (v := .tuple #[.agg #[.bool false, .slice none 0 0], .int .i64 2]) (by simp [results, Tryz.results31, go_sem, k0, k2]) rfl ?_
  exact ⟨rfl, b2 hK (by omega) _ _⟩

set_option maxRecDepth 100000 in
set_option maxHeartbeats 1000000 in
theorem Pow_limit (w : World) (neg : Bool) (A : Option Addr) (c : Nat) (l : List Nat) (n : Int) (h1 : 1 < bl l) (h2 : (1048576 / bl l : Nat) < n) (hm : l.length ≤ 1000000) (hB : isB neg l = true) (hl : WS w A l) :
    Calls Tryz.prog 30 #[.agg #[.bool neg, .slice A l.length c], .int .i64 n] w (ErrE 2 w) := by
  have HB := Lib.hid hB
  obtain ⟨m, hme⟩ : ∃ m, m = bl l := ⟨_, rfl⟩
  rw [← hme] at h1 h2
  have hbi : (1 : Int) < (m : Int) := by omega
  have hm0 : ((m : Int) == 0) = false := beq_eq_false_iff_ne.2 (by omega)
  obtain ⟨d, hd⟩ : ∃ d, d = 1048576 / m := ⟨_, rfl⟩
  have hdiv : (1048576 : Int).tdiv (m : Int) = (d : Int) := by rw [Int.tdiv_eq_ediv_of_nonneg (by omega), hd]; simp
  have hng : (d : Int) < n := by rw [hd]; exact h2
  have hdl : d ≤ 1048576 := by rw [hd]; exact Nat.div_le_self _ _
  have hnn : ¬ n < 0 := by omega
  have HBI : Hid (∀ W, WS W A l → Calls Tryz.prog 111 #[.slice A l.length c] W fun e w' => e = .returned (.int .i64 (m : Int)) ∧ W = w') := Lib.hid (fun W hW => by
    have r := bitLen_any A l.length c l W rfl (by omega) hW
    rw [← hme] at r
    exact r)
  clear hme hd h1 h2
  clear hB
  go_enter Tryz.func30, Tryz.ntmps30
  go_wp2_with fail
  refine (Is_any neg A _ c l _ rfl (by omega) (hl.below (ba (ba (b0 _) _) _))).mono ?_
  rintro e w1 ⟨rfl, hb⟩
  rw [HB.out]
  have hbx := (Box2.new (w.alloc (.cells #[.bool neg, .slice A l.length c] 24)) (.bool false) (.slice none 0 0)).below hb
  rw [World.size_alloc] at hbx
  have hby := ((Box2.new w (.bool neg) (.slice A l.length c)).alloc (.cells #[.bool false, .slice none 0 0] 24)).below hb
  have hK := bt (ba (ba (b0 w) _) _) hb
  have y0 := hby.cell0
  have y1 := hby.cell1
  go_wp2_with fail
  refine (HBI.out w1 (hl.below hK)).mono ?_
  rintro e w2 ⟨rfl, rfl⟩
  have x0 := hbx.cell0
  have x1 := hbx.cell1
  have f0 := hbx.free 0
  have f1 := hbx.free 1
  obtain ⟨k0, k1, k2⟩ := hbx.back (.bool false) (.slice none 0 0)
  go_wp2_with fail
  refine bodyPost_ret (v := .tuple #[.agg #[.bool false, .slice none 0 0], .int .i64 2]) (by simp [results, Tryz.results30, go_sem, k0, k2]) rfl ?_
  exact ⟨rfl, b2 hK (by omega) _ _⟩
end Go.Proofs.YtlloilbinobljaaGreatDoor
