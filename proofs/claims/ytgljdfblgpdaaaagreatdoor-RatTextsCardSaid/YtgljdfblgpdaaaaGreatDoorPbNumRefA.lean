import Derived.Test.YtgljdfblgpdaaaaGreatDoorPbNumRef
set_option linter.unusedSimpArgs false
set_option linter.unusedVariables false
set_option maxRecDepth 100000
set_option maxHeartbeats 4000000
namespace Go.Proofs.YtgljdfblgpdaaaaGreatDoor
open Go.RowKit
theorem RNeg_any (a w : World) (neg : Bool) (A : Option Addr) (n c : Nat) (l : List Nat) (p : Bool) (hn : l.length = n) (hm : n ≤ 4000000) (hnc : n ≤ c) (hl : WS w A l) (hp : isB neg l = p) (hw : Below a.heap.size a w) :
  Calls Tryz.prog 100 #[.agg #[.bool neg, .slice A n c]] w (WRes a (ite0 p (-(zI neg l)))) := by
 subst hn
 have HP := Hi hp
 clear hp
 cases p
 ·rw [show ite0 false (-(zI neg l)) = 0 from rfl]
  go_enter Tryz.func100, Tryz.ntmps100
  go_wp2_with fail
  refine (RIs_any neg A _ c l _ rfl hm (hl.below (ba (ba (b0 _) _) _))).mono ?_
  rintro e w1 ⟨rfl, hb⟩
  rw [HP.out]
  have hbx := (Box2.new (w.alloc (.cells #[.bool neg, .slice A l.length c] 24)) (.bool false) (.slice none 0 0)).below hb
  rw [World.size_alloc] at hbx
  obtain ⟨q0, q1⟩ := hbx.cs
  have f0 := hbx.free 0
  have f1 := hbx.free 1
  obtain ⟨k0, k1, k2⟩ := hbx.back (.bool false) (.slice none 0 0)
  go_wp2_with fail
  refine bodyPost_ret (v := .agg #[.bool false, .slice none 0 0]) (by simp [results, Tryz.results100, go_sem, k0, k2]) rfl ?_
  exact (ires_zero _ _ (b2 (bt (bt hw (ba (ba (b0 _) _) _)) hb) (by have := hw.size; omega) _ _)).weak
 ·rw [show ite0 true (-(zI neg l)) = -(zI neg l) from rfl]
  go_enter Tryz.func100, Tryz.ntmps100
  go_wp2_with fail
  refine (RIs_any neg A _ c l _ rfl hm (hl.below (ba (ba (b0 _) _) _))).mono ?_
  rintro e w1 ⟨rfl, hb⟩
  rw [HP.out]
  have hbx := (Box2.new (w.alloc (.cells #[.bool neg, .slice A l.length c] 24)) (.bool false) (.slice none 0 0)).below hb
  rw [World.size_alloc] at hbx
  have hby := ((Box2.new w (.bool neg) (.slice A l.length c)).alloc (.cells #[.bool false, .slice none 0 0] 24)).below hb
  obtain ⟨y0, y1⟩ := hby.cs
  have hl1 : WS w1 A l := hl.below (bt (ba (ba (b0 _) _) _) hb)
  go_wp2_with fail
  refine (Rmade_any w1 _ (!neg) A l.length c l rfl hm hnc hl1 (b0 _)).mono ?_
  rintro e w3 ⟨ng, A3, c3, l3, rfl, hc3, hl3, hB3, hz3, hb3⟩
  have HZ3 := Hi hz3
  have HB3 := Hi hB3
  clear hz3 hB3
  have hbx3 := hbx.below hb3
  obtain ⟨x0, x1⟩ := hbx3.cs
  have f0 := hbx3.free 0
  have f1 := hbx3.free 1
  obtain ⟨k0, k1, k2⟩ := hbx3.back (.bool ng) (.slice A3 l3.length c3)
  go_wp2_with fail
  refine bodyPost_ret (v := .agg #[.bool ng, .slice A3 l3.length c3]) (by simp [results, Tryz.results100, go_sem, k0, k2]) rfl ?_
  have hof := ws_off_box hbx3 (by simp) hl3
  refine ⟨ng, A3, c3, l3, rfl, hc3, hl3.two hof _ _, HB3.out, ?_, b2 (bt (bt (bt hw (ba (ba (b0 _) _) _)) hb) hb3) (by have := hw.size; omega) _ _⟩
  rw [HZ3.out]
  unfold zI
  cases neg <;> simp
theorem RAbs_any (a w : World) (neg : Bool) (A : Option Addr) (n c : Nat) (l : List Nat) (p : Bool) (hn : l.length = n) (hm : n ≤ 4000000) (hnc : n ≤ c) (hl : WS w A l) (hp : isB neg l = p) (hw : Below a.heap.size a w) :
  Calls Tryz.prog 62 #[.agg #[.bool neg, .slice A n c]] w (WRes a (ite0 p ((val l : Int)))) := by
 subst hn
 have HP := Hi hp
 clear hp
 cases p
 ·rw [show ite0 false ((val l : Int)) = 0 from rfl]
  go_enter Tryz.func62, Tryz.ntmps62
  go_wp2_with fail
  refine (RIs_any neg A _ c l _ rfl hm (hl.below (ba (ba (b0 _) _) _))).mono ?_
  rintro e w1 ⟨rfl, hb⟩
  rw [HP.out]
  have hbx := (Box2.new (w.alloc (.cells #[.bool neg, .slice A l.length c] 24)) (.bool false) (.slice none 0 0)).below hb
  rw [World.size_alloc] at hbx
  obtain ⟨q0, q1⟩ := hbx.cs
  have f0 := hbx.free 0
  have f1 := hbx.free 1
  obtain ⟨k0, k1, k2⟩ := hbx.back (.bool false) (.slice none 0 0)
  go_wp2_with fail
  refine bodyPost_ret (v := .agg #[.bool false, .slice none 0 0]) (by simp [results, Tryz.results62, go_sem, k0, k2]) rfl ?_
  exact (ires_zero _ _ (b2 (bt (bt hw (ba (ba (b0 _) _) _)) hb) (by have := hw.size; omega) _ _)).weak
 ·rw [show ite0 true ((val l : Int)) = (val l : Int) from rfl]
  go_enter Tryz.func62, Tryz.ntmps62
  go_wp2_with fail
  refine (RIs_any neg A _ c l _ rfl hm (hl.below (ba (ba (b0 _) _) _))).mono ?_
  rintro e w1 ⟨rfl, hb⟩
  rw [HP.out]
  have hbx := (Box2.new (w.alloc (.cells #[.bool neg, .slice A l.length c] 24)) (.bool false) (.slice none 0 0)).below hb
  rw [World.size_alloc] at hbx
  have hby := ((Box2.new w (.bool neg) (.slice A l.length c)).alloc (.cells #[.bool false, .slice none 0 0] 24)).below hb
  obtain ⟨y0, y1⟩ := hby.cs
  have hl1 : WS w1 A l := hl.below (bt (ba (ba (b0 _) _) _) hb)
  go_wp2_with fail
  refine (Rmade_any w1 _ false A l.length c l rfl hm hnc hl1 (b0 _)).mono ?_
  rintro e w3 ⟨ng, A3, c3, l3, rfl, hc3, hl3, hB3, hz3, hb3⟩
  have HZ3 := Hi hz3
  have HB3 := Hi hB3
  clear hz3 hB3
  have hbx3 := hbx.below hb3
  obtain ⟨x0, x1⟩ := hbx3.cs
  have f0 := hbx3.free 0
  have f1 := hbx3.free 1
  obtain ⟨k0, k1, k2⟩ := hbx3.back (.bool ng) (.slice A3 l3.length c3)
  go_wp2_with fail
  refine bodyPost_ret (v := .agg #[.bool ng, .slice A3 l3.length c3]) (by simp [results, Tryz.results62, go_sem, k0, k2]) rfl ?_
  have hof := ws_off_box hbx3 (by simp) hl3
  refine ⟨ng, A3, c3, l3, rfl, hc3, hl3.two hof _ _, HB3.out, ?_, b2 (bt (bt (bt hw (ba (ba (b0 _) _) _)) hb) hb3) (by have := hw.size; omega) _ _⟩
  rw [HZ3.out]
  unfold zI
  rfl
theorem me3098 {P : Prop} (h : P := by
 obtain ⟨c0, c1⟩ := hbx.cs
 go_wp2_with fail
 go_ret
 exact ⟨by rw [E1.out]; rfl, bt (ba (b0 _) _) hb⟩) : P := h
theorem RSign_any (neg : Bool) (A : Option Addr) (n c : Nat) (l : List Nat) (p : Bool) (w : World) (hn : l.length = n) (hm : n ≤ 4000000) (hl : WS w A l) (hp : isB neg l = p) :
  Calls Tryz.prog 58 #[.agg #[.bool neg, .slice A n c]] w fun e w' => e = .returned (.int .i64 (sgn p neg l)) ∧ Below w.heap.size w w' := by
 subst hn
 have HP := Hi hp
 clear hp
 cases p
 ·rw [show sgn false neg l = 0 from rfl]
  go_enter Tryz.func58, Tryz.ntmps58
  go_wp2_with fail
  refine (RIs_any neg A _ c l _ rfl hm (hl.below (ba (b0 _) _))).mono ?_
  rintro e w1 ⟨rfl, hb⟩
  rw [HP.out]
  go_wp2_with fail
  go_ret
  exact ⟨rfl, bt (ba (b0 _) _) hb⟩
 ·by_cases h0 : l.length = 0
  ·have e1 : sgn true neg l = 0 := by simp [sgn, h0]
   have hz : ((l.length : Int) == 0) = true := by simp; exact List.eq_nil_of_length_eq_zero h0
   have E1 := Hi e1
   clear e1 h0
   go_enter Tryz.func58, Tryz.ntmps58
   go_wp2_with fail
   refine (RIs_any neg A _ c l _ rfl hm (hl.below (ba (b0 _) _))).mono ?_
   rintro e w1 ⟨rfl, hb⟩
   rw [HP.out]
   have hbx := (Box2.new w (.bool neg) (.slice A l.length c)).below hb
   exact me3098
  ·have e1 : sgn true neg l = if neg then -1 else 1 := by simp [sgn, h0]
   have hz : ((l.length : Int) == 0) = false := beq_eq_false_iff_ne.2 (by omega)
   have E1 := Hi e1
   clear e1 h0
   cases neg
   ·go_enter Tryz.func58, Tryz.ntmps58
    go_wp2_with fail
    refine (RIs_any false A _ c l _ rfl hm (hl.below (ba (b0 _) _))).mono ?_
    rintro e w1 ⟨rfl, hb⟩
    rw [HP.out]
    have hbx := (Box2.new w (.bool false) (.slice A l.length c)).below hb
    exact me3098
   ·go_enter Tryz.func58, Tryz.ntmps58
    go_wp2_with fail
    refine (RIs_any true A _ c l _ rfl hm (hl.below (ba (b0 _) _))).mono ?_
    rintro e w1 ⟨rfl, hb⟩
    rw [HP.out]
    have hbx := (Box2.new w (.bool true) (.slice A l.length c)).below hb
    exact me3098
end Go.Proofs.YtgljdfblgpdaaaaGreatDoor
