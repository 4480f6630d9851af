import Derived.Test.YtgljdfblgpdaaaaGreatDoorPbRatMac
import Derived.Test.YtgljdfblgpdaaaaGreatDoorSiNumRef
set_option linter.unusedSimpArgs false
set_option linter.unusedVariables false
set_option maxRecDepth 100000
set_option maxHeartbeats 4000000
namespace Go.Proofs.YtgljdfblgpdaaaaGreatDoor
open Go.RowKit
theorem m09bf8 {P : Prop} (h : P := by
 rintro e w2 ⟨rfl, hb2⟩
 rw [HQ.out]
 have d0 := (y0.below hb2).cell0
 have d1 := (y0.below hb2).cell1
 have d2 := (y1.below hb2).cell0
 have d3 := (y1.below hb2).cell1
 have hw2 := bt (bt hw1 hb) hb2
 go_wp2_with fail
 refine (RcmpWords_any A B _ c _ d l k _ rfl rfl (by omega) (by omega) (isB_top HP.out) (isB_top HQ.out) (hl.below hw2) (hk.below hw2)).mono ?_
 rintro e w3 ⟨rfl, hb3⟩
 have g0 := ((y0.below hb2).below hb3).cell0
 go_wp2_with fail
 go_ret
 exact ⟨rfl, bt hw2 hb3⟩) : P := h
theorem mbdea7 {P : Prop} (h : P := by
 rintro e w2 ⟨rfl, hb2⟩
 rw [HQ.out]
 have d0 := (y0.below hb2).cell0
 have d1 := (y0.below hb2).cell1
 have d2 := (y1.below hb2).cell0
 have d3 := (y1.below hb2).cell1
 have hw2 := bt (bt hw1 hb) hb2
 go_wp2_with fail
 go_ret
 exact ⟨rfl, hw2⟩) : P := h
theorem RCmp_any (na nb : Bool) (A B : Option Addr) (n c m d : Nat) (l k : List Nat) (p q : Bool) (w : World) (hn : l.length = n) (hm : k.length = m) (hnm : n ≤ 1000000) (hmm : m ≤ 1000000) (hl : WS w A l) (hk : WS w B k) (hp : isB na l = p) (hq : isB nb k = q) :
  Calls Tryz.prog 61 #[.agg #[.bool na, .slice A n c], .agg #[.bool nb, .slice B m d]] w fun e w' => e = .returned (.int .i64 (if p && q then cmpI (zI na l) (zI nb k) else 0)) ∧ Below w.heap.size w w' := by
 subst hn hm
 have HP := Hi hp
 have HQ := Hi hq
 clear hp hq
 cases p
 ·rw [if_neg (by simp)]
  go_enter Tryz.func61, Tryz.ntmps61
  go_wp2_with fail
  refine (RIs_any na A _ c l _ rfl (by omega) (hl.below (ba (ba (b0 _) _) _))).mono ?_
  rintro e w1 ⟨rfl, hb⟩
  rw [HP.out]
  go_wp2_with fail
  go_ret
  exact ⟨rfl, bt (ba (ba (b0 _) _) _) hb⟩
 ·cases q
  ·rw [if_neg (by simp)]
   go_enter Tryz.func61, Tryz.ntmps61
   go_wp2_with fail
   obtain ⟨W1, hW1⟩ : ∃ W, W = (w.alloc (.cells #[.bool na, .slice A l.length c] 24)).alloc (.cells #[.bool nb, .slice B k.length d] 24) := ⟨_, rfl⟩
   have x0 : Box2 W1 w.heap.size (.bool na) (.slice A l.length c) := by rw [hW1]; exact (Box2.new w _ _).alloc _
   have x1 : Box2 W1 (w.heap.size + 1) (.bool nb) (.slice B k.length d) := by
    rw [hW1]
    have h := Box2.new (w.alloc (.cells #[.bool na, .slice A l.length c] 24)) (.bool nb) (.slice B k.length d)
    rwa [World.size_alloc] at h
   have hw1 : Below w.heap.size w W1 := by rw [hW1]; exact ba (ba (b0 _) _) _
   rw [← hW1]
   clear hW1
   refine (RIs_any na A _ c l _ rfl (by omega) (hl.below hw1)).mono ?_
   rintro e w1 ⟨rfl, hb⟩
   rw [HP.out]
   have y0 := x0.below hb
   have y1 := x1.below hb
   obtain ⟨c0, c1⟩ := y0.cs
   obtain ⟨c2, c3⟩ := y1.cs
   go_wp2_with fail
   refine (RIs_any nb B _ d k _ rfl (by omega) (hk.below (bt hw1 hb))).mono ?_
   rintro e w2 ⟨rfl, hb2⟩
   rw [HQ.out]
   go_wp2_with fail
   go_ret
   exact ⟨rfl, bt (bt hw1 hb) hb2⟩
  ·rw [if_pos (by rfl), ← cmpS_eq HP.out HQ.out]
   have hcb := cmpN_lo (val l) (val k)
   have hsw := cmpN_swap (val l) (val k)
   have hww : IntKind.i64.wrap (cmpN (val k) (val l)) = cmpN (val k) (val l) := IntWalk.i64_in _ (by have := cmpN_lo (val k) (val l); omega)
   cases na <;> cases nb
   ·show Calls _ _ _ _ fun e w' => e = .returned (.int .i64 (cmpN (val l) (val k))) ∧ _
    go_enter Tryz.func61, Tryz.ntmps61
    go_wp2_with fail
    obtain ⟨W1, hW1⟩ : ∃ W, W = (w.alloc (.cells #[.bool false, .slice A l.length c] 24)).alloc (.cells #[.bool false, .slice B k.length d] 24) := ⟨_, rfl⟩
    have x0 : Box2 W1 w.heap.size (.bool false) (.slice A l.length c) := by rw [hW1]; exact (Box2.new w _ _).alloc _
    have x1 : Box2 W1 (w.heap.size + 1) (.bool false) (.slice B k.length d) := by
     rw [hW1]
     have h := Box2.new (w.alloc (.cells #[.bool false, .slice A l.length c] 24)) (.bool false) (.slice B k.length d)
     rwa [World.size_alloc] at h
    have hw1 : Below w.heap.size w W1 := by rw [hW1]; exact ba (ba (b0 _) _) _
    rw [← hW1]
    clear hW1
    refine (RIs_any false A _ c l _ rfl (by omega) (hl.below hw1)).mono ?_
    rintro e w1 ⟨rfl, hb⟩
    rw [HP.out]
    have y0 := x0.below hb
    have y1 := x1.below hb
    obtain ⟨c0, c1⟩ := y0.cs
    obtain ⟨c2, c3⟩ := y1.cs
    go_wp2_with fail
    refine (RIs_any false B _ d k _ rfl (by omega) (hk.below (bt hw1 hb))).mono ?_
    exact m09bf8
   ·show Calls _ _ _ _ fun e w' => e = .returned (.int .i64 (1)) ∧ _
    go_enter Tryz.func61, Tryz.ntmps61
    go_wp2_with fail
    obtain ⟨W1, hW1⟩ : ∃ W, W = (w.alloc (.cells #[.bool false, .slice A l.length c] 24)).alloc (.cells #[.bool true, .slice B k.length d] 24) := ⟨_, rfl⟩
    have x0 : Box2 W1 w.heap.size (.bool false) (.slice A l.length c) := by rw [hW1]; exact (Box2.new w _ _).alloc _
    have x1 : Box2 W1 (w.heap.size + 1) (.bool true) (.slice B k.length d) := by
     rw [hW1]
     have h := Box2.new (w.alloc (.cells #[.bool false, .slice A l.length c] 24)) (.bool true) (.slice B k.length d)
     rwa [World.size_alloc] at h
    have hw1 : Below w.heap.size w W1 := by rw [hW1]; exact ba (ba (b0 _) _) _
    rw [← hW1]
    clear hW1
    refine (RIs_any false A _ c l _ rfl (by omega) (hl.below hw1)).mono ?_
    rintro e w1 ⟨rfl, hb⟩
    rw [HP.out]
    have y0 := x0.below hb
    have y1 := x1.below hb
    obtain ⟨c0, c1⟩ := y0.cs
    obtain ⟨c2, c3⟩ := y1.cs
    go_wp2_with fail
    refine (RIs_any true B _ d k _ rfl (by omega) (hk.below (bt hw1 hb))).mono ?_
    exact mbdea7
   ·show Calls _ _ _ _ fun e w' => e = .returned (.int .i64 (-1)) ∧ _
    go_enter Tryz.func61, Tryz.ntmps61
    go_wp2_with fail
    obtain ⟨W1, hW1⟩ : ∃ W, W = (w.alloc (.cells #[.bool true, .slice A l.length c] 24)).alloc (.cells #[.bool false, .slice B k.length d] 24) := ⟨_, rfl⟩
    have x0 : Box2 W1 w.heap.size (.bool true) (.slice A l.length c) := by rw [hW1]; exact (Box2.new w _ _).alloc _
    have x1 : Box2 W1 (w.heap.size + 1) (.bool false) (.slice B k.length d) := by
     rw [hW1]
     have h := Box2.new (w.alloc (.cells #[.bool true, .slice A l.length c] 24)) (.bool false) (.slice B k.length d)
     rwa [World.size_alloc] at h
    have hw1 : Below w.heap.size w W1 := by rw [hW1]; exact ba (ba (b0 _) _) _
    rw [← hW1]
    clear hW1
    refine (RIs_any true A _ c l _ rfl (by omega) (hl.below hw1)).mono ?_
    rintro e w1 ⟨rfl, hb⟩
    rw [HP.out]
    have y0 := x0.below hb
    have y1 := x1.below hb
    obtain ⟨c0, c1⟩ := y0.cs
    obtain ⟨c2, c3⟩ := y1.cs
    go_wp2_with fail
    refine (RIs_any false B _ d k _ rfl (by omega) (hk.below (bt hw1 hb))).mono ?_
    exact mbdea7
   ·show Calls _ _ _ _ fun e w' => e = .returned (.int .i64 (cmpN (val k) (val l))) ∧ _
    go_enter Tryz.func61, Tryz.ntmps61
    go_wp2_with fail
    obtain ⟨W1, hW1⟩ : ∃ W, W = (w.alloc (.cells #[.bool true, .slice A l.length c] 24)).alloc (.cells #[.bool true, .slice B k.length d] 24) := ⟨_, rfl⟩
    have x0 : Box2 W1 w.heap.size (.bool true) (.slice A l.length c) := by rw [hW1]; exact (Box2.new w _ _).alloc _
    have x1 : Box2 W1 (w.heap.size + 1) (.bool true) (.slice B k.length d) := by
     rw [hW1]
     have h := Box2.new (w.alloc (.cells #[.bool true, .slice A l.length c] 24)) (.bool true) (.slice B k.length d)
     rwa [World.size_alloc] at h
    have hw1 : Below w.heap.size w W1 := by rw [hW1]; exact ba (ba (b0 _) _) _
    rw [← hW1]
    clear hW1
    refine (RIs_any true A _ c l _ rfl (by omega) (hl.below hw1)).mono ?_
    rintro e w1 ⟨rfl, hb⟩
    rw [HP.out]
    have y0 := x0.below hb
    have y1 := x1.below hb
    obtain ⟨c0, c1⟩ := y0.cs
    obtain ⟨c2, c3⟩ := y1.cs
    go_wp2_with fail
    refine (RIs_any true B _ d k _ rfl (by omega) (hk.below (bt hw1 hb))).mono ?_
    exact m09bf8
end Go.Proofs.YtgljdfblgpdaaaaGreatDoor
