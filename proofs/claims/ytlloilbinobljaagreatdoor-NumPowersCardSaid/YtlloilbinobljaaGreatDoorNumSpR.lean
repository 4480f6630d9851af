/- The specification's Pow: small powers. What both Pow and both Sqrt give. -/
import Derived.Test.YtlloilbinobljaaGreatDoorNumSpQ
set_option linter.unusedSimpArgs false
set_option linter.unusedVariables false
namespace Go.Proofs.YtlloilbinobljaaGreatDoor
open Go.RowKit Go.Shelf

set_option maxRecDepth 100000 in
set_option maxHeartbeats 1000000 in
theorem RPow_s_true_0 {w : World} {A : Option Addr} {c : Nat} {l : List Nat} {z : Int} (n : Nat) (hn0 : 0 < n) (hpar : n % 2 = 0) (ia : IV w true A c l z) (h1 : bl l < 2) (hv1 : val l ≤ 1) :
    Calls Tryz.prog 31 #[.agg #[.bool true, .slice A l.length c], .int .i64 (n : Int)] w (RIE w (z ^ n)) := by
  have ea := ia.len
  have hB := ia.can
  have hl := ia.ws
  have hca := ia.cap
  obtain ⟨m, hme⟩ : ∃ m, m = bl l := ⟨_, rfl⟩
  have HB := Lib.hid hB
  have HBI : Hid (∀ W, Below w.heap.size w W → Calls Tryz.prog 29 #[.agg #[.bool true, .slice A l.length c]] W fun e w' => e = .returned (.int .i64 (m : Int)) ∧ Below W.heap.size W w') := Lib.hid (fun W hW => by
    have r := RBits_any true A l.length c l true W rfl (by omega) (hl.below hW) hB
    rw [if_pos rfl, ← hme] at r
    exact r)
  rw [← hme] at h1
  have hbi : ¬ (1 : Int) < (m : Int) := by omega
  have hm2 : (m : Int) < 2 := by omega
  have HV1 := Lib.hid hv1
  have HVV : Hid ((zI false l).natAbs = val l) := Lib.hid (by unfold zI; simp)
  have hnn : ¬ (n : Int) < 0 := by omega
  have hnz : ((n : Int) == 0) = false := beq_eq_false_iff_ne.2 (by omega)
  have hmod : (n : Int).tmod 2 = 0 := by rw [Int.tmod_eq_emod_of_nonneg (by omega)]; omega
  have hmod2 : (n : Int) % 2 = 0 := by omega
  have HZ : Hid (zI false l = zI true l ^ n) := Lib.hid (by
    have h := zI_pow true l l n (by
      rcases (show val l = 0 ∨ val l = 1 by omega) with h | h
      · rw [h, Nat.zero_pow hn0]
      · rw [h, Nat.one_pow])
    rw [hpar] at h
    exact h)
  clear hn0 hpar
  obtain rfl := ia.val
  clear ia hB hme h1 hv1
  go_enter Tryz.func31, Tryz.ntmps31
  go_wp2_with fail
  refine (RIs_any true A _ c l _ rfl (by omega) (hl.below (ba (ba (b0 _) _) _))).mono ?_
  rintro e w1 ⟨rfl, hb⟩
  rw [HB.out]
  have hbx := (Box2.new (w.alloc (.cells #[.bool true, .slice A l.length c] 24)) (.bool false) (.slice none 0 0)).below hb
  rw [World.size_alloc] at hbx
  have hby := ((Box2.new w (.bool true) (.slice A l.length c)).alloc (.cells #[.bool false, .slice none 0 0] 24)).below hb
  have hK := bt (ba (ba (b0 w) _) _) hb
  clear hb
  have y0 := hby.cell0
  have y1 := hby.cell1
  go_wp2_with fail
  refine (HBI.out w1 hK).mono ?_
  rintro e w2 ⟨rfl, hb2⟩
  replace hbx := hbx.below hb2
  replace hby := hby.below hb2
  replace hK := bt hK hb2
  clear y0 y1 hb2
  obtain ⟨w1, hw1⟩ : ∃ v, v = w2 := ⟨_, rfl⟩
  rw [← hw1] at hbx hby hK ⊢
  clear hw1 w2
  have y0 := hby.cell0
  have y1 := hby.cell1
  go_wp2_with fail
  refine (HBI.out w1 hK).mono ?_
  rintro e w2 ⟨rfl, hb2⟩
  replace hbx := hbx.below hb2
  replace hby := hby.below hb2
  replace hK := bt hK hb2
  clear y0 y1 hb2
  obtain ⟨w1, hw1⟩ : ∃ v, v = w2 := ⟨_, rfl⟩
  rw [← hw1] at hbx hby hK ⊢
  clear hw1 w2
  have y0 := hby.cell0
  have y1 := hby.cell1
  go_wp2_with fail
  refine (Rmade_any w1 w1 false A l.length c l rfl (by omega) hca (hl.below hK) (b0 _)).mono ?_
  rintro e w3 ⟨n3, A3, c3, l3, rfl, hc3, hs3, hB3, hz3, hb3⟩
  have i3 : IV w3 n3 A3 c3 l3 (zI true l ^ n) := ⟨hc3, hs3, hB3, hz3.trans HZ.out, top_len (isB_top hB3) (by
    have h := val_abs hz3
    rw [h, HVV.out]
    have := BB_mono (show 1 ≤ 300 by omega)
    have e : BB 1 = 4294967296 := by decide
    have := HV1.out
    omega)⟩
  clear hc3 hs3 hB3 hz3
  have bx := hbx.below hb3
  have x0 := bx.cell0
  have x1 := bx.cell1
  have f0 := bx.free 0
  have f1 := bx.free 1
  obtain ⟨k0, k1, k2⟩ := bx.back (.bool n3) (.slice A3 l3.length c3)
  have HI1 := Lib.hid (i3.two bx (.bool n3) (.slice A3 l3.length c3))
  have HBL := Lib.hid (bt hK hb3)
  clear i3
  go_wp2_with fail
  refine bodyPost_ret (v := .tuple #[.agg #[.bool n3, .slice A3 l3.length c3], .int .i64 0]) (by simp [results, Tryz.results31, go_sem, k0, k2]) rfl ?_
  exact ⟨n3, A3, c3, l3, rfl, HI1.out, b2 HBL.out (by omega) _ _⟩

set_option maxRecDepth 100000 in
set_option maxHeartbeats 1000000 in
theorem RPow_s_true_1 {w : World} {A : Option Addr} {c : Nat} {l : List Nat} {z : Int} (n : Nat) (hn0 : 0 < n) (hpar : n % 2 = 1) (ia : IV w true A c l z) (h1 : bl l < 2) (hv1 : val l ≤ 1) :
    Calls Tryz.prog 31 #[.agg #[.bool true, .slice A l.length c], .int .i64 (n : Int)] w (RIE w (z ^ n)) := by
  have ea := ia.len
  have hB := ia.can
  have hl := ia.ws
  have hca := ia.cap
  obtain ⟨m, hme⟩ : ∃ m, m = bl l := ⟨_, rfl⟩
  have HB := Lib.hid hB
  have HBI : Hid (∀ W, Below w.heap.size w W → Calls Tryz.prog 29 #[.agg #[.bool true, .slice A l.length c]] W fun e w' => e = .returned (.int .i64 (m : Int)) ∧ Below W.heap.size W w') := Lib.hid (fun W hW => by
    have r := RBits_any true A l.length c l true W rfl (by omega) (hl.below hW) hB
    rw [if_pos rfl, ← hme] at r
    exact r)
  rw [← hme] at h1
  have hbi : ¬ (1 : Int) < (m : Int) := by omega
  have hm2 : (m : Int) < 2 := by omega
  have HV1 := Lib.hid hv1
  have HVV : Hid ((zI true l).natAbs = val l) := Lib.hid (by unfold zI; simp)
  have hnn : ¬ (n : Int) < 0 := by omega
  have hnz : ((n : Int) == 0) = false := beq_eq_false_iff_ne.2 (by omega)
  have hmod : (n : Int).tmod 2 = 1 := by rw [Int.tmod_eq_emod_of_nonneg (by omega)]; omega
  have hmod2 : (n : Int) % 2 = 1 := by omega
  have HZ : Hid (zI true l = zI true l ^ n) := Lib.hid (by
    have h := zI_pow true l l n (by
      rcases (show val l = 0 ∨ val l = 1 by omega) with h | h
      · rw [h, Nat.zero_pow hn0]
      · rw [h, Nat.one_pow])
    rw [hpar] at h
    exact h)
  clear hn0 hpar
  obtain rfl := ia.val
  clear ia hB hme h1 hv1
  go_enter Tryz.func31, Tryz.ntmps31
  go_wp2_with fail
  refine (RIs_any true A _ c l _ rfl (by omega) (hl.below (ba (ba (b0 _) _) _))).mono ?_
  rintro e w1 ⟨rfl, hb⟩
  rw [HB.out]
  have hbx := (Box2.new (w.alloc (.cells #[.bool true, .slice A l.length c] 24)) (.bool false) (.slice none 0 0)).below hb
  rw [World.size_alloc] at hbx
  have hby := ((Box2.new w (.bool true) (.slice A l.length c)).alloc (.cells #[.bool false, .slice none 0 0] 24)).below hb
  have hK := bt (ba (ba (b0 w) _) _) hb
  clear hb
  have y0 := hby.cell0
  have y1 := hby.cell1
  go_wp2_with fail
  refine (HBI.out w1 hK).mono ?_
  rintro e w2 ⟨rfl, hb2⟩
  replace hbx := hbx.below hb2
  replace hby := hby.below hb2
  replace hK := bt hK hb2
  clear y0 y1 hb2
  obtain ⟨w1, hw1⟩ : ∃ v, v = w2 := ⟨_, rfl⟩
  rw [← hw1] at hbx hby hK ⊢
  clear hw1 w2
  have y0 := hby.cell0
  have y1 := hby.cell1
  go_wp2_with fail
  refine (HBI.out w1 hK).mono ?_
  rintro e w2 ⟨rfl, hb2⟩
  replace hbx := hbx.below hb2
  replace hby := hby.below hb2
  replace hK := bt hK hb2
  clear y0 y1 hb2
  obtain ⟨w1, hw1⟩ : ∃ v, v = w2 := ⟨_, rfl⟩
  rw [← hw1] at hbx hby hK ⊢
  clear hw1 w2
  have y0 := hby.cell0
  have y1 := hby.cell1
  go_wp2_with fail
  refine (Rmade_any w1 w1 true A l.length c l rfl (by omega) hca (hl.below hK) (b0 _)).mono ?_
  rintro e w3 ⟨n3, A3, c3, l3, rfl, hc3, hs3, hB3, hz3, hb3⟩
  have i3 : IV w3 n3 A3 c3 l3 (zI true l ^ n) := ⟨hc3, hs3, hB3, hz3.trans HZ.out, top_len (isB_top hB3) (by
    have h := val_abs hz3
    rw [h, HVV.out]
    have := BB_mono (show 1 ≤ 300 by omega)
    have e : BB 1 = 4294967296 := by decide
    have := HV1.out
    omega)⟩
  clear hc3 hs3 hB3 hz3
  have bx := hbx.below hb3
  have x0 := bx.cell0
  have x1 := bx.cell1
  have f0 := bx.free 0
  have f1 := bx.free 1
  obtain ⟨k0, k1, k2⟩ := bx.back (.bool n3) (.slice A3 l3.length c3)
  have HI1 := Lib.hid (i3.two bx (.bool n3) (.slice A3 l3.length c3))
  have HBL := Lib.hid (bt hK hb3)
  clear i3
  go_wp2_with fail
  refine bodyPost_ret (v := .tuple #[.agg #[.bool n3, .slice A3 l3.length c3], .int .i64 0]) (by simp [results, Tryz.results31, go_sem, k0, k2]) rfl ?_
  exact ⟨n3, A3, c3, l3, rfl, HI1.out, b2 HBL.out (by omega) _ _⟩

set_option maxRecDepth 100000 in
set_option maxHeartbeats 1000000 in
theorem RPow_z_true {w : World} {A : Option Addr} {c : Nat} {l : List Nat} {z : Int} (ia : IV w true A c l z) (h1 : bl l < 2) (hv1 : val l ≤ 1) :
    Calls Tryz.prog 31 #[.agg #[.bool true, .slice A l.length c], .int .i64 0] w (RIE w (1)) := by
  have ea := ia.len
  have hB := ia.can
  have hl := ia.ws
  have hca := ia.cap
  obtain ⟨m, hme⟩ : ∃ m, m = bl l := ⟨_, rfl⟩
  have HB := Lib.hid hB
  have HBI : Hid (∀ W, Below w.heap.size w W → Calls Tryz.prog 29 #[.agg #[.bool true, .slice A l.length c]] W fun e w' => e = .returned (.int .i64 (m : Int)) ∧ Below W.heap.size W w') := Lib.hid (fun W hW => by
    have r := RBits_any true A l.length c l true W rfl (by omega) (hl.below hW) hB
    rw [if_pos rfl, ← hme] at r
    exact r)
  rw [← hme] at h1
  have hbi : ¬ (1 : Int) < (m : Int) := by omega
  have hm2 : (m : Int) < 2 := by omega
  have HV1 := Lib.hid hv1
  have HVV : Hid ((zI false l).natAbs = val l) := Lib.hid (by unfold zI; simp)
  obtain rfl := ia.val
  clear ia hB hme h1 hv1
  go_enter Tryz.func31, Tryz.ntmps31
  go_wp2_with fail
  refine (RIs_any true A _ c l _ rfl (by omega) (hl.below (ba (ba (b0 _) _) _))).mono ?_
  rintro e w1 ⟨rfl, hb⟩
  rw [HB.out]
  have hbx := (Box2.new (w.alloc (.cells #[.bool true, .slice A l.length c] 24)) (.bool false) (.slice none 0 0)).below hb
  rw [World.size_alloc] at hbx
  have hby := ((Box2.new w (.bool true) (.slice A l.length c)).alloc (.cells #[.bool false, .slice none 0 0] 24)).below hb
  have hK := bt (ba (ba (b0 w) _) _) hb
  clear hb
  have y0 := hby.cell0
  have y1 := hby.cell1
  go_wp2_with fail
  refine (HBI.out w1 hK).mono ?_
  rintro e w2 ⟨rfl, hb2⟩
  replace hbx := hbx.below hb2
  replace hby := hby.below hb2
  replace hK := bt hK hb2
  clear y0 y1 hb2
  obtain ⟨w1, hw1⟩ : ∃ v, v = w2 := ⟨_, rfl⟩
  rw [← hw1] at hbx hby hK ⊢
  clear hw1 w2
  have y0 := hby.cell0
  have y1 := hby.cell1
  go_wp2_with fail
  refine (HBI.out w1 hK).mono ?_
  rintro e w2 ⟨rfl, hb2⟩
  replace hbx := hbx.below hb2
  replace hby := hby.below hb2
  replace hK := bt hK hb2
  clear y0 y1 hb2
  obtain ⟨w1, hw1⟩ : ∃ v, v = w2 := ⟨_, rfl⟩
  rw [← hw1] at hbx hby hK ⊢
  clear hw1 w2
  have y0 := hby.cell0
  have y1 := hby.cell1
  go_wp2_with fail
  refine (ROf_iv w1 1 (by omega) (by omega)).mono ?_
  rintro e w3 ⟨n3, A3, c3, l3, rfl, i3, hb3⟩
  have bx := hbx.below hb3
  have x0 := bx.cell0
  have x1 := bx.cell1
  have f0 := bx.free 0
  have f1 := bx.free 1
  obtain ⟨k0, k1, k2⟩ := bx.back (.bool n3) (.slice A3 l3.length c3)
  have HI1 := Lib.hid (i3.two bx (.bool n3) (.slice A3 l3.length c3))
  have HBL := Lib.hid (bt hK hb3)
  clear i3
  go_wp2_with fail
  refine bodyPost_ret (v := .tuple #[.agg #[.bool n3, .slice A3 l3.length c3], .int .i64 0]) (by simp [results, Tryz.results31, go_sem, k0, k2]) rfl ?_
  exact ⟨n3, A3, c3, l3, rfl, HI1.out, b2 HBL.out (by omega) _ _⟩

set_option maxRecDepth 100000 in
set_option maxHeartbeats 1000000 in
theorem RPow_s_false_0 {w : World} {A : Option Addr} {c : Nat} {l : List Nat} {z : Int} (n : Nat) (hn0 : 0 < n) (hpar : n % 2 = 0) (ia : IV w false A c l z) (h1 : bl l < 2) (hv1 : val l ≤ 1) :
    Calls Tryz.prog 31 #[.agg #[.bool false, .slice A l.length c], .int .i64 (n : Int)] w (RIE w (z ^ n)) := by
  have ea := ia.len
  have hB := ia.can
  have hl := ia.ws
  have hca := ia.cap
  obtain ⟨m, hme⟩ : ∃ m, m = bl l := ⟨_, rfl⟩
  have HB := Lib.hid hB
  have HBI : Hid (∀ W, Below w.heap.size w W → Calls Tryz.prog 29 #[.agg #[.bool false, .slice A l.length c]] W fun e w' => e = .returned (.int .i64 (m : Int)) ∧ Below W.heap.size W w') := Lib.hid (fun W hW => by
    have r := RBits_any false A l.length c l true W rfl (by omega) (hl.below hW) hB
    rw [if_pos rfl, ← hme] at r
    exact r)
  rw [← hme] at h1
  have hbi : ¬ (1 : Int) < (m : Int) := by omega
  have hm2 : (m : Int) < 2 := by omega
  have HV1 := Lib.hid hv1
  have HVV : Hid ((zI false l).natAbs = val l) := Lib.hid (by unfold zI; simp)
  have hnn : ¬ (n : Int) < 0 := by omega
  have hnz : ((n : Int) == 0) = false := beq_eq_false_iff_ne.2 (by omega)
  have hmod : (n : Int).tmod 2 = 0 := by rw [Int.tmod_eq_emod_of_nonneg (by omega)]; omega
  have hmod2 : (n : Int) % 2 = 0 := by omega
  have HZ : Hid (zI false l = zI false l ^ n) := Lib.hid (by
    have h := zI_pow false l l n (by
      rcases (show val l = 0 ∨ val l = 1 by omega) with h | h
      · rw [h, Nat.zero_pow hn0]
      · rw [h, Nat.one_pow])
    rw [hpar] at h
    exact h)
  clear hn0 hpar
  obtain rfl := ia.val
  clear ia hB hme h1 hv1
  go_enter Tryz.func31, Tryz.ntmps31
  go_wp2_with fail
  refine (RIs_any false A _ c l _ rfl (by omega) (hl.below (ba (ba (b0 _) _) _))).mono ?_
  rintro e w1 ⟨rfl, hb⟩
  rw [HB.out]
  have hbx := (Box2.new (w.alloc (.cells #[.bool false, .slice A l.length c] 24)) (.bool false) (.slice none 0 0)).below hb
  rw [World.size_alloc] at hbx
  have hby := ((Box2.new w (.bool false) (.slice A l.length c)).alloc (.cells #[.bool false, .slice none 0 0] 24)).below hb
  have hK := bt (ba (ba (b0 w) _) _) hb
  clear hb
  have y0 := hby.cell0
  have y1 := hby.cell1
  go_wp2_with fail
  refine (HBI.out w1 hK).mono ?_
  rintro e w2 ⟨rfl, hb2⟩
  replace hbx := hbx.below hb2
  replace hby := hby.below hb2
  replace hK := bt hK hb2
  clear y0 y1 hb2
  obtain ⟨w1, hw1⟩ : ∃ v, v = w2 := ⟨_, rfl⟩
  rw [← hw1] at hbx hby hK ⊢
  clear hw1 w2
  have y0 := hby.cell0
  have y1 := hby.cell1
  go_wp2_with fail
  refine (HBI.out w1 hK).mono ?_
  rintro e w2 ⟨rfl, hb2⟩
  replace hbx := hbx.below hb2
  replace hby := hby.below hb2
  replace hK := bt hK hb2
  clear y0 y1 hb2
  obtain ⟨w1, hw1⟩ : ∃ v, v = w2 := ⟨_, rfl⟩
  rw [← hw1] at hbx hby hK ⊢
  clear hw1 w2
  have y0 := hby.cell0
  have y1 := hby.cell1
  go_wp2_with fail
  refine (Rmade_any w1 w1 false A l.length c l rfl (by omega) hca (hl.below hK) (b0 _)).mono ?_
  rintro e w3 ⟨n3, A3, c3, l3, rfl, hc3, hs3, hB3, hz3, hb3⟩
  have i3 : IV w3 n3 A3 c3 l3 (zI false l ^ n) := ⟨hc3, hs3, hB3, hz3.trans HZ.out, top_len (isB_top hB3) (by
    have h := val_abs hz3
    rw [h, HVV.out]
    have := BB_mono (show 1 ≤ 300 by omega)
    have e : BB 1 = 4294967296 := by decide
    have := HV1.out
    omega)⟩
  clear hc3 hs3 hB3 hz3
  have bx := hbx.below hb3
  have x0 := bx.cell0
  have x1 := bx.cell1
  have f0 := bx.free 0
  have f1 := bx.free 1
  obtain ⟨k0, k1, k2⟩ := bx.back (.bool n3) (.slice A3 l3.length c3)
  have HI1 := Lib.hid (i3.two bx (.bool n3) (.slice A3 l3.length c3))
  have HBL := Lib.hid (bt hK hb3)
  clear i3
  go_wp2_with fail
  refine bodyPost_ret (v := .tuple #[.agg #[.bool n3, .slice A3 l3.length c3], .int .i64 0]) (by simp [results, Tryz.results31, go_sem, k0, k2]) rfl ?_
  exact ⟨n3, A3, c3, l3, rfl, HI1.out, b2 HBL.out (by omega) _ _⟩

set_option maxRecDepth 100000 in
set_option maxHeartbeats 1000000 in
theorem RPow_s_false_1 {w : World} {A : Option Addr} {c : Nat} {l : List Nat} {z : Int} (n : Nat) (hn0 : 0 < n) (hpar : n % 2 = 1) (ia : IV w false A c l z) (h1 : bl l < 2) (hv1 : val l ≤ 1) :
    Calls Tryz.prog 31 #[.agg #[.bool false, .slice A l.length c], .int .i64 (n : Int)] w (RIE w (z ^ n)) := by
  have ea := ia.len
  have hB := ia.can
  have hl := ia.ws
  have hca := ia.cap
  obtain ⟨m, hme⟩ : ∃ m, m = bl l := ⟨_, rfl⟩
  have HB := Lib.hid hB
  have HBI : Hid (∀ W, Below w.heap.size w W → Calls Tryz.prog 29 #[.agg #[.bool false, .slice A l.length c]] W fun e w' => e = .returned (.int .i64 (m : Int)) ∧ Below W.heap.size W w') := Lib.hid (fun W hW => by
    have r := RBits_any false A l.length c l true W rfl (by omega) (hl.below hW) hB
    rw [if_pos rfl, ← hme] at r
    exact r)
  rw [← hme] at h1
  have hbi : ¬ (1 : Int) < (m : Int) := by omega
  have hm2 : (m : Int) < 2 := by omega
  have HV1 := Lib.hid hv1
  have HVV : Hid ((zI false l).natAbs = val l) := Lib.hid (by unfold zI; simp)
  have hnn : ¬ (n : Int) < 0 := by omega
  have hnz : ((n : Int) == 0) = false := beq_eq_false_iff_ne.2 (by omega)
  have hmod : (n : Int).tmod 2 = 1 := by rw [Int.tmod_eq_emod_of_nonneg (by omega)]; omega
  have hmod2 : (n : Int) % 2 = 1 := by omega
  have HZ : Hid (zI false l = zI false l ^ n) := Lib.hid (by
    have h := zI_pow false l l n (by
      rcases (show val l = 0 ∨ val l = 1 by omega) with h | h
      · rw [h, Nat.zero_pow hn0]
      · rw [h, Nat.one_pow])
    rw [hpar] at h
    exact h)
  clear hn0 hpar
  obtain rfl := ia.val
  clear ia hB hme h1 hv1
  go_enter Tryz.func31, Tryz.ntmps31
  go_wp2_with fail
  refine (RIs_any false A _ c l _ rfl (by omega) (hl.below (ba (ba (b0 _) _) _))).mono ?_
  rintro e w1 ⟨rfl, hb⟩
  rw [HB.out]
  have hbx := (Box2.new (w.alloc (.cells #[.bool false, .slice A l.length c] 24)) (.bool false) (.slice none 0 0)).below hb
  rw [World.size_alloc] at hbx
  have hby := ((Box2.new w (.bool false) (.slice A l.length c)).alloc (.cells #[.bool false, .slice none 0 0] 24)).below hb
  have hK := bt (ba (ba (b0 w) _) _) hb
  clear hb
  have y0 := hby.cell0
  have y1 := hby.cell1
  go_wp2_with fail
  refine (HBI.out w1 hK).mono ?_
  rintro e w2 ⟨rfl, hb2⟩
  replace hbx := hbx.below hb2
  replace hby := hby.below hb2
  replace hK := bt hK hb2
  clear y0 y1 hb2
  obtain ⟨w1, hw1⟩ : ∃ v, v = w2 := ⟨_, rfl⟩
  rw [← hw1] at hbx hby hK ⊢
  clear hw1 w2
  have y0 := hby.cell0
  have y1 := hby.cell1
  go_wp2_with fail
  refine (HBI.out w1 hK).mono ?_
  rintro e w2 ⟨rfl, hb2⟩
  replace hbx := hbx.below hb2
  replace hby := hby.below hb2
  replace hK := bt hK hb2
  clear y0 y1 hb2
  obtain ⟨w1, hw1⟩ : ∃ v, v = w2 := ⟨_, rfl⟩
  rw [← hw1] at hbx hby hK ⊢
  clear hw1 w2
  have y0 := hby.cell0
  have y1 := hby.cell1
  go_wp2_with fail
  refine (Rmade_any w1 w1 false A l.length c l rfl (by omega) hca (hl.below hK) (b0 _)).mono ?_
  rintro e w3 ⟨n3, A3, c3, l3, rfl, hc3, hs3, hB3, hz3, hb3⟩
  have i3 : IV w3 n3 A3 c3 l3 (zI false l ^ n) := ⟨hc3, hs3, hB3, hz3.trans HZ.out, top_len (isB_top hB3) (by
    have h := val_abs hz3
    rw [h, HVV.out]
    have := BB_mono (show 1 ≤ 300 by omega)
    have e : BB 1 = 4294967296 := by decide
    have := HV1.out
    omega)⟩
  clear hc3 hs3 hB3 hz3
  have bx := hbx.below hb3
  have x0 := bx.cell0
  have x1 := bx.cell1
  have f0 := bx.free 0
  have f1 := bx.free 1
  obtain ⟨k0, k1, k2⟩ := bx.back (.bool n3) (.slice A3 l3.length c3)
  have HI1 := Lib.hid (i3.two bx (.bool n3) (.slice A3 l3.length c3))
  have HBL := Lib.hid (bt hK hb3)
  clear i3
  go_wp2_with fail
  refine bodyPost_ret (v := .tuple #[.agg #[.bool n3, .slice A3 l3.length c3], .int .i64 0]) (by simp [results, Tryz.results31, go_sem, k0, k2]) rfl ?_
  exact ⟨n3, A3, c3, l3, rfl, HI1.out, b2 HBL.out (by omega) _ _⟩

set_option maxRecDepth 100000 in
set_option maxHeartbeats 1000000 in
theorem RPow_z_false {w : World} {A : Option Addr} {c : Nat} {l : List Nat} {z : Int} (ia : IV w false A c l z) (h1 : bl l < 2) (hv1 : val l ≤ 1) :
    Calls Tryz.prog 31 #[.agg #[.bool false, .slice A l.length c], .int .i64 0] w (RIE w (1)) := by
  have ea := ia.len
  have hB := ia.can
  have hl := ia.ws
  have hca := ia.cap
  obtain ⟨m, hme⟩ : ∃ m, m = bl l := ⟨_, rfl⟩
  have HB := Lib.hid hB
  have HBI : Hid (∀ W, Below w.heap.size w W → Calls Tryz.prog 29 #[.agg #[.bool false, .slice A l.length c]] W fun e w' => e = .returned (.int .i64 (m : Int)) ∧ Below W.heap.size W w') := Lib.hid (fun W hW => by
    have r := RBits_any false A l.length c l true W rfl (by omega) (hl.below hW) hB
    rw [if_pos rfl, ← hme] at r
    exact r)
  rw [← hme] at h1
  have hbi : ¬ (1 : Int) < (m : Int) := by omega
  have hm2 : (m : Int) < 2 := by omega
  have HV1 := Lib.hid hv1
  have HVV : Hid ((zI false l).natAbs = val l) := Lib.hid (by unfold zI; simp)
  obtain rfl := ia.val
  clear ia hB hme h1 hv1
  go_enter Tryz.func31, Tryz.ntmps31
  go_wp2_with fail
  refine (RIs_any false A _ c l _ rfl (by omega) (hl.below (ba (ba (b0 _) _) _))).mono ?_
  rintro e w1 ⟨rfl, hb⟩
  rw [HB.out]
  have hbx := (Box2.new (w.alloc (.cells #[.bool false, .slice A l.length c] 24)) (.bool false) (.slice none 0 0)).below hb
  rw [World.size_alloc] at hbx
  have hby := ((Box2.new w (.bool false) (.slice A l.length c)).alloc (.cells #[.bool false, .slice none 0 0] 24)).below hb
  have hK := bt (ba (ba (b0 w) _) _) hb
  clear hb
  have y0 := hby.cell0
  have y1 := hby.cell1
  go_wp2_with fail
  refine (HBI.out w1 hK).mono ?_
  rintro e w2 ⟨rfl, hb2⟩
  replace hbx := hbx.below hb2
  replace hby := hby.below hb2
  replace hK := bt hK hb2
  clear y0 y1 hb2
  obtain ⟨w1, hw1⟩ : ∃ v, v = w2 := ⟨_, rfl⟩
  rw [← hw1] at hbx hby hK ⊢
  clear hw1 w2
  have y0 := hby.cell0
  have y1 := hby.cell1
  go_wp2_with fail
  refine (HBI.out w1 hK).mono ?_
  rintro e w2 ⟨rfl, hb2⟩
  replace hbx := hbx.below hb2
  replace hby := hby.below hb2
  replace hK := bt hK hb2
  clear y0 y1 hb2
  obtain ⟨w1, hw1⟩ : ∃ v, v = w2 := ⟨_, rfl⟩
  rw [← hw1] at hbx hby hK ⊢
  clear hw1 w2
  have y0 := hby.cell0
  have y1 := hby.cell1
  go_wp2_with fail
  refine (ROf_iv w1 1 (by omega) (by omega)).mono ?_
  rintro e w3 ⟨n3, A3, c3, l3, rfl, i3, hb3⟩
  have bx := hbx.below hb3
  have x0 := bx.cell0
  have x1 := bx.cell1
  have f0 := bx.free 0
  have f1 := bx.free 1
  obtain ⟨k0, k1, k2⟩ := bx.back (.bool n3) (.slice A3 l3.length c3)
  have HI1 := Lib.hid (i3.two bx (.bool n3) (.slice A3 l3.length c3))
  have HBL := Lib.hid (bt hK hb3)
  clear i3
  go_wp2_with fail
  refine bodyPost_ret (v := .tuple #[.agg #[.bool n3, .slice A3 l3.length c3], .int .i64 0]) (by simp [results, Tryz.results31, go_sem, k0, k2]) rfl ?_
  exact ⟨n3, A3, c3, l3, rfl, HI1.out, b2 HBL.out (by omega) _ _⟩

theorem bl_small {l : List Nat} (hw : ∀ x ∈ l, x < 4294967296) (ht : Top l) (h : bl l < 2) : val l ≤ 1 := by
  have h1 := bl_lt hw ht
  have h2 : 2 ^ bl l ≤ 2 ^ 1 := Nat.pow_le_pow_right (by decide) (by omega)
  omega
theorem RPow_small {w : World} {neg : Bool} {A : Option Addr} {c : Nat} {l : List Nat} {z : Int} (n : Nat) (ia : IV w neg A c l z) (h1 : bl l < 2) :
    Calls Tryz.prog 31 #[.agg #[.bool neg, .slice A l.length c], .int .i64 (n : Int)] w (RIE w (z ^ n)) := by
  have hv := bl_small ia.ws.1 (isB_top ia.can) h1
  rcases Nat.eq_zero_or_pos n with rfl | h0
  · rw [Int.pow_zero]
    cases neg
    · exact RPow_z_false ia h1 hv
    · exact RPow_z_true ia h1 hv
  · rcases Nat.mod_two_eq_zero_or_one n with hp | hp
    · cases neg
      · exact RPow_s_false_0 n h0 hp ia h1 hv
      · exact RPow_s_true_0 n h0 hp ia h1 hv
    · cases neg
      · exact RPow_s_false_1 n h0 hp ia h1 hv
      · exact RPow_s_true_1 n h0 hp ia h1 hv
end Go.Proofs.YtlloilbinobljaaGreatDoor
