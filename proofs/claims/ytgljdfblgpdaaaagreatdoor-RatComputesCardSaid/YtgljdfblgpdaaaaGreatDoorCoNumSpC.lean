import Derived.Test.YtgljdfblgpdaaaaGreatDoorCoNumSpB
set_option linter.unusedSimpArgs false
set_option linter.unusedVariables false
set_option maxRecDepth 100000
set_option maxHeartbeats 4000000
namespace Go.Proofs.YtgljdfblgpdaaaaGreatDoor
open Go.RowKit Go.Shelf
variable {A B : Option Addr} {ca cb : Nat} {k l l1 la lb : List Nat} {na nb : Bool} {w : World} {x y z : Int}
theorem zI_add (h : val l1 = val l + val k) : zI na l1 = zI na l + zI na k := by
 unfold zI
 rw [h]
 cases na <;> simp <;> omega
theorem zI_sub (hle : val k ≤ val l) (hne : (na == nb) = false) (h : val l1 = val l - val k) : zI na l1 = zI na l + zI nb k := by
 unfold zI
 rw [h]
 cases na <;> cases nb <;> simp at hne ⊢ <;> omega
theorem zI_sub2 (hle : val l ≤ val k) (hne : (na == nb) = false) (h : val l1 = val k - val l) : zI nb l1 = zI na l + zI nb k := by
 unfold zI
 rw [h]
 cases na <;> cases nb <;> simp at hne ⊢ <;> omega
theorem RAdd_yy (ia : IV w na A ca la x) (ib : IV w nb B cb lb y) (hz : x + y = z) (hlt : Lt 300 z) (hxa : x.natAbs < 4611686018427387904) (hxb : y.natAbs < 4611686018427387904) :
  Calls Tryz.prog 19 #[.agg #[.bool na, .slice A la.length ca], .agg #[.bool nb, .slice B lb.length cb]] w (RIV w z) := by
 have ea := ia.len
 have eb := ib.len
 have HA := Hi hxa
 have HB := Hi hxb
 have HOF := Hi (fun w => ROf_iv w z (by omega) (by omega))
 have HWS : Hid (wrap64 (x + y) = z) := Hi (by unfold wrap64; omega)
 clear hz hxa hxb
 go_enter Tryz.func19, Tryz.ntmps19
 go_wp2_with fail
 refine (RIs_iv (ia.below (ba (ba (ba (b0 _) _) _) _))).mono ?_
 rintro e w0 ⟨rfl, hb0⟩
 have hbx0 := (Box2.new ((w.alloc (.cells #[.bool na, .slice A la.length ca] 24)).alloc (.cells #[.bool nb, .slice B lb.length cb] 24)) (.bool false) (.slice none 0 0)).below hb0
 rw [World.size_alloc, World.size_alloc] at hbx0
 have hby0 := (((Box2.new w (.bool na) (.slice A la.length ca)).alloc (.cells #[.bool nb, .slice B lb.length cb] 24)).alloc (.cells #[.bool false, .slice none 0 0] 24)).below hb0
 have hbz0 := ((Box2.new (w.alloc (.cells #[.bool na, .slice A la.length ca] 24)) (.bool nb) (.slice B lb.length cb)).alloc (.cells #[.bool false, .slice none 0 0] 24)).below hb0
 rw [World.size_alloc] at hbz0
 have hK0 := bt (ba (ba (ba (b0 w) _) _) _) hb0
 obtain ⟨y2, y3⟩ := hbz0.cs
 go_wp2_with fail
 refine (RIs_iv (ib.below hK0)).mono ?_
 rintro e w1 ⟨rfl, hb1⟩
 have hbx := hbx0.below hb1
 have hby := hby0.below hb1
 have hbz := hbz0.below hb1
 have hK := bt hK0 hb1
 clear hbx0 hby0 hbz0 hK0 hb0 hb1 y2 y3
 obtain ⟨y0, y1⟩ := hby.cs
 obtain ⟨y2, y3⟩ := hbz.cs
 have hwA := ia.ws.below hK
 have hwB := ib.ws.below hK
 go_wp2_with fail
 refine (Rnative_yes (ia.below hK) HA.out).mono ?_
 rintro e w1' ⟨rfl, hb1⟩
 replace hbx := hbx.below hb1
 replace hby := hby.below hb1
 replace hbz := hbz.below hb1
 replace hK := bt hK hb1
 clear y0 y1 y2 y3 hwA hwB hb1
 clear w1
 obtain ⟨w1, hw1⟩ : ∃ v, v = w1' := ⟨_, rfl⟩
 rw [← hw1] at hbx hby hbz hK ⊢
 clear hw1 w1'
 obtain ⟨y0, y1⟩ := hby.cs
 obtain ⟨y2, y3⟩ := hbz.cs
 have hwA := ia.ws.below hK
 have hwB := ib.ws.below hK
 go_wp2_with fail
 refine (Rnative_yes (ib.below hK) HB.out).mono ?_
 rintro e w1' ⟨rfl, hb1⟩
 replace hbx := hbx.below hb1
 replace hby := hby.below hb1
 replace hbz := hbz.below hb1
 replace hK := bt hK hb1
 clear y0 y1 y2 y3 hwA hwB hb1
 clear w1
 obtain ⟨w1, hw1⟩ : ∃ v, v = w1' := ⟨_, rfl⟩
 rw [← hw1] at hbx hby hbz hK ⊢
 clear hw1 w1'
 obtain ⟨y0, y1⟩ := hby.cs
 obtain ⟨y2, y3⟩ := hbz.cs
 have hwA := ia.ws.below hK
 have hwB := ib.ws.below hK
 have hws := HWS.out
 go_wp2_with fail
 clear hws
 refine (HOF.out w1).mono ?_
 rintro e w3 ⟨ng, A3, c3, l3, rfl, i3, hb3⟩
 have hbx3 := hbx.below hb3
 obtain ⟨x0, x1⟩ := hbx3.cs
 have f0 := hbx3.free 0
 have f1 := hbx3.free 1
 obtain ⟨k0, k1, k2⟩ := hbx3.back (.bool ng) (.slice A3 l3.length c3)
 have HI := Hi i3
 clear i3
 go_wp2_with fail
 refine bodyPost_ret (v := .agg #[.bool ng, .slice A3 l3.length c3]) (by simp [results, Tryz.results19, go_sem, k0, k2]) rfl ?_
 exact riv_store (bt hK hb3) (by omega) hbx3 HI.out
theorem md606d {P : Prop} (h : P := by
 rintro e w1' ⟨rfl, hb1⟩
 replace hbx := hbx.below hb1
 replace hby := hby.below hb1
 replace hbz := hbz.below hb1
 replace hK := bt hK hb1
 clear y0 y1 y2 y3 hwA hwB hb1
 clear w1
 obtain ⟨w1, hw1⟩ : ∃ v, v = w1' := ⟨_, rfl⟩
 rw [← hw1] at hbx hby hbz hK ⊢
 clear hw1 w1'
 obtain ⟨y0, y1⟩ := hby.cs
 obtain ⟨y2, y3⟩ := hbz.cs
 have hwA := ia.ws.below hK
 have hwB := ib.ws.below hK
 go_wp2_with fail
 go_region_held3 (fun W => W.cell? ⟨w.heap.size, 0, none⟩ = some (.bool na) ∧ W.cell? ⟨w.heap.size, 1, none⟩ = some (.slice A la.length ca) ∧ W.cell? ⟨w.heap.size + 1, 0, none⟩ = some (.bool na) ∧ W.cell? ⟨w.heap.size + 1, 1, none⟩ = some (.slice B lb.length cb))
  (first | exact ⟨y0, y1, y2, y3⟩ | exact ⟨z0, z1, z2, z3⟩ | exact ⟨v0, v1, v2, v3⟩ | exact ⟨s0, s1, s2, s3⟩ | go_keep)
  (first
   | (go_at_call 92; refine (RaddWords_any A B _ ca _ cb la lb _ rfl rfl (by omega) (by omega) (hwA.below (bd (b0 _) _)) (hwB.below (bd (b0 _) _))).mono ?_; rintro e w2 ⟨A1, c1, l1, rfl, hlc1, hws1, ht1, hv1, hb2⟩; have hb2 := bt (bd (b0 w1) _) hb2; have hlen1 : l1.length ≤ la.length + lb.length + 1 := len_sum ht1 hwA.1 hwB.1 hv1; have HV1 := Hi hv1; have HT1 := Hi ht1; clear hv1 ht1; have hbx2 := hbx.below hb2; have z0 := (hby.below hb2).cell0; have z1 := (hby.below hb2).cell1; have z2 := (hbz.below hb2).cell0; have z3 := (hbz.below hb2).cell1)
   | (go_at_call 94; refine (Rmade_any _ _ na A1 _ c1 l1 rfl (by omega) hlc1 (by first | exact hws1 | exact hws1.below (bd (b0 _) _)) (b0 _)).mono ?_; rintro e w3 ⟨ng, A3, c3, l3, rfl, hc3, hl3, hB3, hz3, hb3⟩; have hb3 := bt (bt hb2 (by first | exact b0 _ | exact bd (b0 _) _)) hb3; have HZ3 := Hi hz3; have HB3 := Hi hB3; clear hz3 hB3; have hbx3 := hbx.below hb3; have x0 := hbx3.cell0; have x1 := hbx3.cell1; have f0 := hbx3.free 0; have f1 := hbx3.free 1; have v0 := (hby.below hb3).cell0; have v1 := (hby.below hb3).cell1; have v2 := (hbz.below hb3).cell0; have v3 := (hbz.below hb3).cell1; have hs := box2_far (hby.below hb3) (q := w.heap.size + 1 + 1) (by omega) (.bool ng) (.slice A3 l3.length c3); have ht := box2_far (hbz.below hb3) (q := w.heap.size + 1 + 1) (by omega) (.bool ng) (.slice A3 l3.length c3); have s0 := hs.cell0; have s1 := hs.cell1; have s2 := ht.cell0; have s3 := ht.cell1))
 obtain ⟨k0, k1, k2⟩ := hbx3.back (.bool ng) (.slice A3 l3.length c3)
 go_wp2_with fail
 refine bodyPost_ret (v := .agg #[.bool ng, .slice A3 l3.length c3]) (by simp [results, Tryz.results19, go_sem, k0, k2]) rfl ?_
 exact riv_store (bt hK hb3) (by omega) hbx3 (.of hc3 hl3 HB3.out (HZ3.out.trans ((zI_add HV1.out).trans HZZ.out)) hlt)) : P := h
theorem m8bb12 {P : Prop} (h : P := by
 rintro e w1' ⟨rfl, hb1⟩
 replace hbx := hbx.below hb1
 replace hby := hby.below hb1
 replace hbz := hbz.below hb1
 replace hK := bt hK hb1
 clear y0 y1 y2 y3 hwA hwB hb1
 clear w1
 obtain ⟨w1, hw1⟩ : ∃ v, v = w1' := ⟨_, rfl⟩
 rw [← hw1] at hbx hby hbz hK ⊢
 clear hw1 w1'
 obtain ⟨y0, y1⟩ := hby.cs
 obtain ⟨y2, y3⟩ := hbz.cs
 have hwA := ia.ws.below hK
 have hwB := ib.ws.below hK
 go_wp2_with fail
 refine (Rnative_no (ib.below hK) HB.out).mono ?_
 exact md606d) : P := h
theorem RAdd_same_yn (ia : IV w na A ca la x) (ib : IV w na B cb lb y) (hz : x + y = z) (hlt : Lt 300 z) (hxa : x.natAbs < 4611686018427387904) (hxb : 4611686018427387904 ≤ y.natAbs) :
  Calls Tryz.prog 19 #[.agg #[.bool na, .slice A la.length ca], .agg #[.bool na, .slice B lb.length cb]] w (RIV w z) := by
 have ea := ia.len
 have eb := ib.len
 have HA := Hi hxa
 have HB := Hi hxb
 have HZZ : Hid (zI na la + zI na lb = z) := Hi (by rw [ia.val, ib.val]; exact hz)
 have hbe : (na == na) = true := by cases na <;> rfl
 clear hz hxa hxb
 go_enter Tryz.func19, Tryz.ntmps19
 go_wp2_with fail
 refine (RIs_iv (ia.below (ba (ba (ba (b0 _) _) _) _))).mono ?_
 rintro e w0 ⟨rfl, hb0⟩
 have hbx0 := (Box2.new ((w.alloc (.cells #[.bool na, .slice A la.length ca] 24)).alloc (.cells #[.bool na, .slice B lb.length cb] 24)) (.bool false) (.slice none 0 0)).below hb0
 rw [World.size_alloc, World.size_alloc] at hbx0
 have hby0 := (((Box2.new w (.bool na) (.slice A la.length ca)).alloc (.cells #[.bool na, .slice B lb.length cb] 24)).alloc (.cells #[.bool false, .slice none 0 0] 24)).below hb0
 have hbz0 := ((Box2.new (w.alloc (.cells #[.bool na, .slice A la.length ca] 24)) (.bool na) (.slice B lb.length cb)).alloc (.cells #[.bool false, .slice none 0 0] 24)).below hb0
 rw [World.size_alloc] at hbz0
 have hK0 := bt (ba (ba (ba (b0 w) _) _) _) hb0
 obtain ⟨y2, y3⟩ := hbz0.cs
 go_wp2_with fail
 refine (RIs_iv (ib.below hK0)).mono ?_
 rintro e w1 ⟨rfl, hb1⟩
 have hbx := hbx0.below hb1
 have hby := hby0.below hb1
 have hbz := hbz0.below hb1
 have hK := bt hK0 hb1
 clear hbx0 hby0 hbz0 hK0 hb0 hb1 y2 y3
 obtain ⟨y0, y1⟩ := hby.cs
 obtain ⟨y2, y3⟩ := hbz.cs
 have hwA := ia.ws.below hK
 have hwB := ib.ws.below hK
 go_wp2_with fail
 refine (Rnative_yes (ia.below hK) HA.out).mono ?_
 exact m8bb12
theorem m439eb {P : Prop} (h : P := by
 rintro e w1' ⟨rfl, hb1⟩
 replace hbx := hbx.below hb1
 replace hby := hby.below hb1
 replace hbz := hbz.below hb1
 replace hK := bt hK hb1
 clear y0 y1 y2 y3 hwA hwB hb1
 clear w1
 obtain ⟨w1, hw1⟩ : ∃ v, v = w1' := ⟨_, rfl⟩
 rw [← hw1] at hbx hby hbz hK ⊢
 clear hw1 w1'
 obtain ⟨y0, y1⟩ := hby.cs
 obtain ⟨y2, y3⟩ := hbz.cs
 have hwA := ia.ws.below hK
 have hwB := ib.ws.below hK
 go_wp2_with fail
 refine (RcmpWords_any A B _ ca _ cb la lb w1 rfl rfl (by omega) (by omega) (isB_top ia.can) (isB_top ib.can) hwA hwB).mono ?_
 rintro e w1' ⟨rfl, hb1⟩
 rw [← HCV.out]
 replace hbx := hbx.below hb1
 replace hby := hby.below hb1
 replace hbz := hbz.below hb1
 replace hK := bt hK hb1
 clear y0 y1 y2 y3 hwA hwB hb1
 clear w1
 obtain ⟨w1, hw1⟩ : ∃ v, v = w1' := ⟨_, rfl⟩
 rw [← hw1] at hbx hby hbz hK ⊢
 clear hw1 w1'
 obtain ⟨y0, y1⟩ := hby.cs
 obtain ⟨y2, y3⟩ := hbz.cs
 have hwA := ia.ws.below hK
 have hwB := ib.ws.below hK
 go_wp2_with fail
 go_region_held3 (fun W => W.cell? ⟨w.heap.size, 0, none⟩ = some (.bool na) ∧ W.cell? ⟨w.heap.size, 1, none⟩ = some (.slice A la.length ca) ∧ W.cell? ⟨w.heap.size + 1, 0, none⟩ = some (.bool nb) ∧ W.cell? ⟨w.heap.size + 1, 1, none⟩ = some (.slice B lb.length cb))
  (first | exact ⟨y0, y1, y2, y3⟩ | exact ⟨z0, z1, z2, z3⟩ | exact ⟨v0, v1, v2, v3⟩ | exact ⟨s0, s1, s2, s3⟩ | go_keep)
  (first
   | (go_at_call 93; refine (RsubWords_any A B _ ca _ cb la lb _ rfl rfl (by omega) (len_le (isB_top ib.can) hwA.1 HLE.out) HLE.out (hwA.below (bd (b0 _) _)) (hwB.below (bd (b0 _) _))).mono ?_; rintro e w2 ⟨A1, c1, l1, rfl, hlc1, hws1, ht1, hv1, hb2⟩; have hb2 := bt (bd (b0 w1) _) hb2; have hlen1 : l1.length ≤ la.length := len_le ht1 hwA.1 (by rw [hv1]; omega); have HV1 := Hi hv1; have HT1 := Hi ht1; clear hv1 ht1; have hbx2 := hbx.below hb2; have z0 := (hby.below hb2).cell0; have z1 := (hby.below hb2).cell1; have z2 := (hbz.below hb2).cell0; have z3 := (hbz.below hb2).cell1)
   | (go_at_call 94; refine (Rmade_any _ _ na A1 _ c1 l1 rfl (by omega) hlc1 (by first | exact hws1 | exact hws1.below (bd (b0 _) _)) (b0 _)).mono ?_; rintro e w3 ⟨ng, A3, c3, l3, rfl, hc3, hl3, hB3, hz3, hb3⟩; have hb3 := bt (bt hb2 (by first | exact b0 _ | exact bd (b0 _) _)) hb3; have HZ3 := Hi hz3; have HB3 := Hi hB3; clear hz3 hB3; have hbx3 := hbx.below hb3; have x0 := hbx3.cell0; have x1 := hbx3.cell1; have f0 := hbx3.free 0; have f1 := hbx3.free 1; have v0 := (hby.below hb3).cell0; have v1 := (hby.below hb3).cell1; have v2 := (hbz.below hb3).cell0; have v3 := (hbz.below hb3).cell1; have hs := box2_far (hby.below hb3) (q := w.heap.size + 1 + 1) (by omega) (.bool ng) (.slice A3 l3.length c3); have ht := box2_far (hbz.below hb3) (q := w.heap.size + 1 + 1) (by omega) (.bool ng) (.slice A3 l3.length c3); have s0 := hs.cell0; have s1 := hs.cell1; have s2 := ht.cell0; have s3 := ht.cell1))
 obtain ⟨k0, k1, k2⟩ := hbx3.back (.bool ng) (.slice A3 l3.length c3)
 go_wp2_with fail
 refine bodyPost_ret (v := .agg #[.bool ng, .slice A3 l3.length c3]) (by simp [results, Tryz.results19, go_sem, k0, k2]) rfl ?_
 exact riv_store (bt hK hb3) (by omega) hbx3 (.of hc3 hl3 HB3.out (HZ3.out.trans ((zI_sub HLE.out HNE.out HV1.out).trans HZZ.out)) hlt)) : P := h
theorem m5f5fe {P : Prop} (h : P := by
 rintro e w1' ⟨rfl, hb1⟩
 replace hbx := hbx.below hb1
 replace hby := hby.below hb1
 replace hbz := hbz.below hb1
 replace hK := bt hK hb1
 clear y0 y1 y2 y3 hwA hwB hb1
 clear w1
 obtain ⟨w1, hw1⟩ : ∃ v, v = w1' := ⟨_, rfl⟩
 rw [← hw1] at hbx hby hbz hK ⊢
 clear hw1 w1'
 obtain ⟨y0, y1⟩ := hby.cs
 obtain ⟨y2, y3⟩ := hbz.cs
 have hwA := ia.ws.below hK
 have hwB := ib.ws.below hK
 go_wp2_with fail
 refine (Rnative_no (ib.below hK) HB.out).mono ?_
 exact m439eb) : P := h
theorem RAdd_ge_yn (ia : IV w na A ca la x) (ib : IV w nb B cb lb y) (hz : x + y = z) (hlt : Lt 300 z) (hxa : x.natAbs < 4611686018427387904) (hxb : 4611686018427387904 ≤ y.natAbs) (hne : (na == nb) = false) (hle : val lb ≤ val la) :
  Calls Tryz.prog 19 #[.agg #[.bool na, .slice A la.length ca], .agg #[.bool nb, .slice B lb.length cb]] w (RIV w z) := by
 have ea := ia.len
 have eb := ib.len
 have HA := Hi hxa
 have HB := Hi hxb
 have HLE := Hi hle
 have HNE := Hi hne
 have HZZ : Hid (zI na la + zI nb lb = z) := Hi (by rw [ia.val, ib.val]; exact hz)
 obtain ⟨cv, hcv⟩ : ∃ cv, cv = cmpN (val la) (val lb) := ⟨_, rfl⟩
 have hcv0 : 0 ≤ cv := by rw [hcv]; unfold cmpN; (repeat' split) <;> omega
 have HCV := Hi hcv
 clear hz hxa hxb hle hcv
 go_enter Tryz.func19, Tryz.ntmps19
 go_wp2_with fail
 refine (RIs_iv (ia.below (ba (ba (ba (b0 _) _) _) _))).mono ?_
 rintro e w0 ⟨rfl, hb0⟩
 have hbx0 := (Box2.new ((w.alloc (.cells #[.bool na, .slice A la.length ca] 24)).alloc (.cells #[.bool nb, .slice B lb.length cb] 24)) (.bool false) (.slice none 0 0)).below hb0
 rw [World.size_alloc, World.size_alloc] at hbx0
 have hby0 := (((Box2.new w (.bool na) (.slice A la.length ca)).alloc (.cells #[.bool nb, .slice B lb.length cb] 24)).alloc (.cells #[.bool false, .slice none 0 0] 24)).below hb0
 have hbz0 := ((Box2.new (w.alloc (.cells #[.bool na, .slice A la.length ca] 24)) (.bool nb) (.slice B lb.length cb)).alloc (.cells #[.bool false, .slice none 0 0] 24)).below hb0
 rw [World.size_alloc] at hbz0
 have hK0 := bt (ba (ba (ba (b0 w) _) _) _) hb0
 obtain ⟨y2, y3⟩ := hbz0.cs
 go_wp2_with fail
 refine (RIs_iv (ib.below hK0)).mono ?_
 rintro e w1 ⟨rfl, hb1⟩
 have hbx := hbx0.below hb1
 have hby := hby0.below hb1
 have hbz := hbz0.below hb1
 have hK := bt hK0 hb1
 clear hbx0 hby0 hbz0 hK0 hb0 hb1 y2 y3
 obtain ⟨y0, y1⟩ := hby.cs
 obtain ⟨y2, y3⟩ := hbz.cs
 have hwA := ia.ws.below hK
 have hwB := ib.ws.below hK
 go_wp2_with fail
 refine (Rnative_yes (ia.below hK) HA.out).mono ?_
 exact m5f5fe
theorem mfe6ff {P : Prop} (h : P := by
 rintro e w1' ⟨rfl, hb1⟩
 replace hbx := hbx.below hb1
 replace hby := hby.below hb1
 replace hbz := hbz.below hb1
 replace hK := bt hK hb1
 clear y0 y1 y2 y3 hwA hwB hb1
 clear w1
 obtain ⟨w1, hw1⟩ : ∃ v, v = w1' := ⟨_, rfl⟩
 rw [← hw1] at hbx hby hbz hK ⊢
 clear hw1 w1'
 obtain ⟨y0, y1⟩ := hby.cs
 obtain ⟨y2, y3⟩ := hbz.cs
 have hwA := ia.ws.below hK
 have hwB := ib.ws.below hK
 go_wp2_with fail
 refine (RcmpWords_any A B _ ca _ cb la lb w1 rfl rfl (by omega) (by omega) (isB_top ia.can) (isB_top ib.can) hwA hwB).mono ?_
 rintro e w1' ⟨rfl, hb1⟩
 rw [← HCV.out]
 replace hbx := hbx.below hb1
 replace hby := hby.below hb1
 replace hbz := hbz.below hb1
 replace hK := bt hK hb1
 clear y0 y1 y2 y3 hwA hwB hb1
 clear w1
 obtain ⟨w1, hw1⟩ : ∃ v, v = w1' := ⟨_, rfl⟩
 rw [← hw1] at hbx hby hbz hK ⊢
 clear hw1 w1'
 obtain ⟨y0, y1⟩ := hby.cs
 obtain ⟨y2, y3⟩ := hbz.cs
 have hwA := ia.ws.below hK
 have hwB := ib.ws.below hK
 go_wp2_with fail
 go_region_held3 (fun W => W.cell? ⟨w.heap.size, 0, none⟩ = some (.bool na) ∧ W.cell? ⟨w.heap.size, 1, none⟩ = some (.slice A la.length ca) ∧ W.cell? ⟨w.heap.size + 1, 0, none⟩ = some (.bool nb) ∧ W.cell? ⟨w.heap.size + 1, 1, none⟩ = some (.slice B lb.length cb))
  (first | exact ⟨y0, y1, y2, y3⟩ | exact ⟨z0, z1, z2, z3⟩ | exact ⟨v0, v1, v2, v3⟩ | exact ⟨s0, s1, s2, s3⟩ | go_keep)
  (first
   | (go_at_call 93; refine (RsubWords_any B A _ cb _ ca lb la _ rfl rfl (by omega) (len_le (isB_top ia.can) hwB.1 HLE.out) HLE.out (hwB.below (bd (b0 _) _)) (hwA.below (bd (b0 _) _))).mono ?_; rintro e w2 ⟨A1, c1, l1, rfl, hlc1, hws1, ht1, hv1, hb2⟩; have hb2 := bt (bd (b0 w1) _) hb2; have hlen1 : l1.length ≤ lb.length := len_le ht1 hwB.1 (by rw [hv1]; omega); have HV1 := Hi hv1; have HT1 := Hi ht1; clear hv1 ht1; have hbx2 := hbx.below hb2; have z0 := (hby.below hb2).cell0; have z1 := (hby.below hb2).cell1; have z2 := (hbz.below hb2).cell0; have z3 := (hbz.below hb2).cell1)
   | (go_at_call 94; refine (Rmade_any _ _ nb A1 _ c1 l1 rfl (by omega) hlc1 (by first | exact hws1 | exact hws1.below (bd (b0 _) _)) (b0 _)).mono ?_; rintro e w3 ⟨ng, A3, c3, l3, rfl, hc3, hl3, hB3, hz3, hb3⟩; have hb3 := bt (bt hb2 (by first | exact b0 _ | exact bd (b0 _) _)) hb3; have HZ3 := Hi hz3; have HB3 := Hi hB3; clear hz3 hB3; have hbx3 := hbx.below hb3; have x0 := hbx3.cell0; have x1 := hbx3.cell1; have f0 := hbx3.free 0; have f1 := hbx3.free 1; have v0 := (hby.below hb3).cell0; have v1 := (hby.below hb3).cell1; have v2 := (hbz.below hb3).cell0; have v3 := (hbz.below hb3).cell1; have hs := box2_far (hby.below hb3) (q := w.heap.size + 1 + 1) (by omega) (.bool ng) (.slice A3 l3.length c3); have ht := box2_far (hbz.below hb3) (q := w.heap.size + 1 + 1) (by omega) (.bool ng) (.slice A3 l3.length c3); have s0 := hs.cell0; have s1 := hs.cell1; have s2 := ht.cell0; have s3 := ht.cell1))
 obtain ⟨k0, k1, k2⟩ := hbx3.back (.bool ng) (.slice A3 l3.length c3)
 go_wp2_with fail
 refine bodyPost_ret (v := .agg #[.bool ng, .slice A3 l3.length c3]) (by simp [results, Tryz.results19, go_sem, k0, k2]) rfl ?_
 exact riv_store (bt hK hb3) (by omega) hbx3 (.of hc3 hl3 HB3.out (HZ3.out.trans ((zI_sub2 (Nat.le_of_lt HLT.out) HNE.out HV1.out).trans HZZ.out)) hlt)) : P := h
theorem m0ed57 {P : Prop} (h : P := by
 rintro e w1' ⟨rfl, hb1⟩
 replace hbx := hbx.below hb1
 replace hby := hby.below hb1
 replace hbz := hbz.below hb1
 replace hK := bt hK hb1
 clear y0 y1 y2 y3 hwA hwB hb1
 clear w1
 obtain ⟨w1, hw1⟩ : ∃ v, v = w1' := ⟨_, rfl⟩
 rw [← hw1] at hbx hby hbz hK ⊢
 clear hw1 w1'
 obtain ⟨y0, y1⟩ := hby.cs
 obtain ⟨y2, y3⟩ := hbz.cs
 have hwA := ia.ws.below hK
 have hwB := ib.ws.below hK
 go_wp2_with fail
 refine (Rnative_no (ib.below hK) HB.out).mono ?_
 exact mfe6ff) : P := h
theorem RAdd_lt_yn (ia : IV w na A ca la x) (ib : IV w nb B cb lb y) (hz : x + y = z) (hlt : Lt 300 z) (hxa : x.natAbs < 4611686018427387904) (hxb : 4611686018427387904 ≤ y.natAbs) (hne : (na == nb) = false) (hle : val la < val lb) :
  Calls Tryz.prog 19 #[.agg #[.bool na, .slice A la.length ca], .agg #[.bool nb, .slice B lb.length cb]] w (RIV w z) := by
 have ea := ia.len
 have eb := ib.len
 have HA := Hi hxa
 have HB := Hi hxb
 have HLT := Hi hle
 have HLE : Hid (val la ≤ val lb) := Hi (Nat.le_of_lt hle)
 have HNE := Hi hne
 have HZZ : Hid (zI na la + zI nb lb = z) := Hi (by rw [ia.val, ib.val]; exact hz)
 obtain ⟨cv, hcv⟩ : ∃ cv, cv = cmpN (val la) (val lb) := ⟨_, rfl⟩
 have hcv0 : ¬ 0 ≤ cv := by rw [hcv]; unfold cmpN; (repeat' split) <;> omega
 have HCV := Hi hcv
 clear hz hxa hxb hle hcv
 go_enter Tryz.func19, Tryz.ntmps19
 go_wp2_with fail
 refine (RIs_iv (ia.below (ba (ba (ba (b0 _) _) _) _))).mono ?_
 rintro e w0 ⟨rfl, hb0⟩
 have hbx0 := (Box2.new ((w.alloc (.cells #[.bool na, .slice A la.length ca] 24)).alloc (.cells #[.bool nb, .slice B lb.length cb] 24)) (.bool false) (.slice none 0 0)).below hb0
 rw [World.size_alloc, World.size_alloc] at hbx0
 have hby0 := (((Box2.new w (.bool na) (.slice A la.length ca)).alloc (.cells #[.bool nb, .slice B lb.length cb] 24)).alloc (.cells #[.bool false, .slice none 0 0] 24)).below hb0
 have hbz0 := ((Box2.new (w.alloc (.cells #[.bool na, .slice A la.length ca] 24)) (.bool nb) (.slice B lb.length cb)).alloc (.cells #[.bool false, .slice none 0 0] 24)).below hb0
 rw [World.size_alloc] at hbz0
 have hK0 := bt (ba (ba (ba (b0 w) _) _) _) hb0
 obtain ⟨y2, y3⟩ := hbz0.cs
 go_wp2_with fail
 refine (RIs_iv (ib.below hK0)).mono ?_
 rintro e w1 ⟨rfl, hb1⟩
 have hbx := hbx0.below hb1
 have hby := hby0.below hb1
 have hbz := hbz0.below hb1
 have hK := bt hK0 hb1
 clear hbx0 hby0 hbz0 hK0 hb0 hb1 y2 y3
 obtain ⟨y0, y1⟩ := hby.cs
 obtain ⟨y2, y3⟩ := hbz.cs
 have hwA := ia.ws.below hK
 have hwB := ib.ws.below hK
 go_wp2_with fail
 refine (Rnative_yes (ia.below hK) HA.out).mono ?_
 exact m0ed57
theorem RAdd_same_ny (ia : IV w na A ca la x) (ib : IV w na B cb lb y) (hz : x + y = z) (hlt : Lt 300 z) (hxa : 4611686018427387904 ≤ x.natAbs) (hxb : y.natAbs < 4611686018427387904) :
  Calls Tryz.prog 19 #[.agg #[.bool na, .slice A la.length ca], .agg #[.bool na, .slice B lb.length cb]] w (RIV w z) := by
 have ea := ia.len
 have eb := ib.len
 have HA := Hi hxa
 have HB := Hi hxb
 have HZZ : Hid (zI na la + zI na lb = z) := Hi (by rw [ia.val, ib.val]; exact hz)
 have hbe : (na == na) = true := by cases na <;> rfl
 clear hz hxa hxb
 go_enter Tryz.func19, Tryz.ntmps19
 go_wp2_with fail
 refine (RIs_iv (ia.below (ba (ba (ba (b0 _) _) _) _))).mono ?_
 rintro e w0 ⟨rfl, hb0⟩
 have hbx0 := (Box2.new ((w.alloc (.cells #[.bool na, .slice A la.length ca] 24)).alloc (.cells #[.bool na, .slice B lb.length cb] 24)) (.bool false) (.slice none 0 0)).below hb0
 rw [World.size_alloc, World.size_alloc] at hbx0
 have hby0 := (((Box2.new w (.bool na) (.slice A la.length ca)).alloc (.cells #[.bool na, .slice B lb.length cb] 24)).alloc (.cells #[.bool false, .slice none 0 0] 24)).below hb0
 have hbz0 := ((Box2.new (w.alloc (.cells #[.bool na, .slice A la.length ca] 24)) (.bool na) (.slice B lb.length cb)).alloc (.cells #[.bool false, .slice none 0 0] 24)).below hb0
 rw [World.size_alloc] at hbz0
 have hK0 := bt (ba (ba (ba (b0 w) _) _) _) hb0
 obtain ⟨y2, y3⟩ := hbz0.cs
 go_wp2_with fail
 refine (RIs_iv (ib.below hK0)).mono ?_
 rintro e w1 ⟨rfl, hb1⟩
 have hbx := hbx0.below hb1
 have hby := hby0.below hb1
 have hbz := hbz0.below hb1
 have hK := bt hK0 hb1
 clear hbx0 hby0 hbz0 hK0 hb0 hb1 y2 y3
 obtain ⟨y0, y1⟩ := hby.cs
 obtain ⟨y2, y3⟩ := hbz.cs
 have hwA := ia.ws.below hK
 have hwB := ib.ws.below hK
 go_wp2_with fail
 refine (Rnative_no (ia.below hK) HA.out).mono ?_
 rintro e w1' ⟨rfl, hb1⟩
 replace hbx := hbx.below hb1
 replace hby := hby.below hb1
 replace hbz := hbz.below hb1
 replace hK := bt hK hb1
 clear y0 y1 y2 y3 hwA hwB hb1
 clear w1
 obtain ⟨w1, hw1⟩ : ∃ v, v = w1' := ⟨_, rfl⟩
 rw [← hw1] at hbx hby hbz hK ⊢
 clear hw1 w1'
 obtain ⟨y0, y1⟩ := hby.cs
 obtain ⟨y2, y3⟩ := hbz.cs
 have hwA := ia.ws.below hK
 have hwB := ib.ws.below hK
 go_wp2_with fail
 refine (Rnative_yes (ib.below hK) HB.out).mono ?_
 exact md606d
theorem RAdd_ge_ny (ia : IV w na A ca la x) (ib : IV w nb B cb lb y) (hz : x + y = z) (hlt : Lt 300 z) (hxa : 4611686018427387904 ≤ x.natAbs) (hxb : y.natAbs < 4611686018427387904) (hne : (na == nb) = false) (hle : val lb ≤ val la) :
  Calls Tryz.prog 19 #[.agg #[.bool na, .slice A la.length ca], .agg #[.bool nb, .slice B lb.length cb]] w (RIV w z) := by
 have ea := ia.len
 have eb := ib.len
 have HA := Hi hxa
 have HB := Hi hxb
 have HLE := Hi hle
 have HNE := Hi hne
 have HZZ : Hid (zI na la + zI nb lb = z) := Hi (by rw [ia.val, ib.val]; exact hz)
 obtain ⟨cv, hcv⟩ : ∃ cv, cv = cmpN (val la) (val lb) := ⟨_, rfl⟩
 have hcv0 : 0 ≤ cv := by rw [hcv]; unfold cmpN; (repeat' split) <;> omega
 have HCV := Hi hcv
 clear hz hxa hxb hle hcv
 go_enter Tryz.func19, Tryz.ntmps19
 go_wp2_with fail
 refine (RIs_iv (ia.below (ba (ba (ba (b0 _) _) _) _))).mono ?_
 rintro e w0 ⟨rfl, hb0⟩
 have hbx0 := (Box2.new ((w.alloc (.cells #[.bool na, .slice A la.length ca] 24)).alloc (.cells #[.bool nb, .slice B lb.length cb] 24)) (.bool false) (.slice none 0 0)).below hb0
 rw [World.size_alloc, World.size_alloc] at hbx0
 have hby0 := (((Box2.new w (.bool na) (.slice A la.length ca)).alloc (.cells #[.bool nb, .slice B lb.length cb] 24)).alloc (.cells #[.bool false, .slice none 0 0] 24)).below hb0
 have hbz0 := ((Box2.new (w.alloc (.cells #[.bool na, .slice A la.length ca] 24)) (.bool nb) (.slice B lb.length cb)).alloc (.cells #[.bool false, .slice none 0 0] 24)).below hb0
 rw [World.size_alloc] at hbz0
 have hK0 := bt (ba (ba (ba (b0 w) _) _) _) hb0
 obtain ⟨y2, y3⟩ := hbz0.cs
 go_wp2_with fail
 refine (RIs_iv (ib.below hK0)).mono ?_
 rintro e w1 ⟨rfl, hb1⟩
 have hbx := hbx0.below hb1
 have hby := hby0.below hb1
 have hbz := hbz0.below hb1
 have hK := bt hK0 hb1
 clear hbx0 hby0 hbz0 hK0 hb0 hb1 y2 y3
 obtain ⟨y0, y1⟩ := hby.cs
 obtain ⟨y2, y3⟩ := hbz.cs
 have hwA := ia.ws.below hK
 have hwB := ib.ws.below hK
 go_wp2_with fail
 refine (Rnative_no (ia.below hK) HA.out).mono ?_
 rintro e w1' ⟨rfl, hb1⟩
 replace hbx := hbx.below hb1
 replace hby := hby.below hb1
 replace hbz := hbz.below hb1
 replace hK := bt hK hb1
 clear y0 y1 y2 y3 hwA hwB hb1
 clear w1
 obtain ⟨w1, hw1⟩ : ∃ v, v = w1' := ⟨_, rfl⟩
 rw [← hw1] at hbx hby hbz hK ⊢
 clear hw1 w1'
 obtain ⟨y0, y1⟩ := hby.cs
 obtain ⟨y2, y3⟩ := hbz.cs
 have hwA := ia.ws.below hK
 have hwB := ib.ws.below hK
 go_wp2_with fail
 refine (Rnative_yes (ib.below hK) HB.out).mono ?_
 exact m439eb
theorem RAdd_lt_ny (ia : IV w na A ca la x) (ib : IV w nb B cb lb y) (hz : x + y = z) (hlt : Lt 300 z) (hxa : 4611686018427387904 ≤ x.natAbs) (hxb : y.natAbs < 4611686018427387904) (hne : (na == nb) = false) (hle : val la < val lb) :
  Calls Tryz.prog 19 #[.agg #[.bool na, .slice A la.length ca], .agg #[.bool nb, .slice B lb.length cb]] w (RIV w z) := by
 have ea := ia.len
 have eb := ib.len
 have HA := Hi hxa
 have HB := Hi hxb
 have HLT := Hi hle
 have HLE : Hid (val la ≤ val lb) := Hi (Nat.le_of_lt hle)
 have HNE := Hi hne
 have HZZ : Hid (zI na la + zI nb lb = z) := Hi (by rw [ia.val, ib.val]; exact hz)
 obtain ⟨cv, hcv⟩ : ∃ cv, cv = cmpN (val la) (val lb) := ⟨_, rfl⟩
 have hcv0 : ¬ 0 ≤ cv := by rw [hcv]; unfold cmpN; (repeat' split) <;> omega
 have HCV := Hi hcv
 clear hz hxa hxb hle hcv
 go_enter Tryz.func19, Tryz.ntmps19
 go_wp2_with fail
 refine (RIs_iv (ia.below (ba (ba (ba (b0 _) _) _) _))).mono ?_
 rintro e w0 ⟨rfl, hb0⟩
 have hbx0 := (Box2.new ((w.alloc (.cells #[.bool na, .slice A la.length ca] 24)).alloc (.cells #[.bool nb, .slice B lb.length cb] 24)) (.bool false) (.slice none 0 0)).below hb0
 rw [World.size_alloc, World.size_alloc] at hbx0
 have hby0 := (((Box2.new w (.bool na) (.slice A la.length ca)).alloc (.cells #[.bool nb, .slice B lb.length cb] 24)).alloc (.cells #[.bool false, .slice none 0 0] 24)).below hb0
 have hbz0 := ((Box2.new (w.alloc (.cells #[.bool na, .slice A la.length ca] 24)) (.bool nb) (.slice B lb.length cb)).alloc (.cells #[.bool false, .slice none 0 0] 24)).below hb0
 rw [World.size_alloc] at hbz0
 have hK0 := bt (ba (ba (ba (b0 w) _) _) _) hb0
 obtain ⟨y2, y3⟩ := hbz0.cs
 go_wp2_with fail
 refine (RIs_iv (ib.below hK0)).mono ?_
 rintro e w1 ⟨rfl, hb1⟩
 have hbx := hbx0.below hb1
 have hby := hby0.below hb1
 have hbz := hbz0.below hb1
 have hK := bt hK0 hb1
 clear hbx0 hby0 hbz0 hK0 hb0 hb1 y2 y3
 obtain ⟨y0, y1⟩ := hby.cs
 obtain ⟨y2, y3⟩ := hbz.cs
 have hwA := ia.ws.below hK
 have hwB := ib.ws.below hK
 go_wp2_with fail
 refine (Rnative_no (ia.below hK) HA.out).mono ?_
 rintro e w1' ⟨rfl, hb1⟩
 replace hbx := hbx.below hb1
 replace hby := hby.below hb1
 replace hbz := hbz.below hb1
 replace hK := bt hK hb1
 clear y0 y1 y2 y3 hwA hwB hb1
 clear w1
 obtain ⟨w1, hw1⟩ : ∃ v, v = w1' := ⟨_, rfl⟩
 rw [← hw1] at hbx hby hbz hK ⊢
 clear hw1 w1'
 obtain ⟨y0, y1⟩ := hby.cs
 obtain ⟨y2, y3⟩ := hbz.cs
 have hwA := ia.ws.below hK
 have hwB := ib.ws.below hK
 go_wp2_with fail
 refine (Rnative_yes (ib.below hK) HB.out).mono ?_
 exact mfe6ff
theorem RAdd_same_nn (ia : IV w na A ca la x) (ib : IV w na B cb lb y) (hz : x + y = z) (hlt : Lt 300 z) (hxa : 4611686018427387904 ≤ x.natAbs) (hxb : 4611686018427387904 ≤ y.natAbs) :
  Calls Tryz.prog 19 #[.agg #[.bool na, .slice A la.length ca], .agg #[.bool na, .slice B lb.length cb]] w (RIV w z) := by
 have ea := ia.len
 have eb := ib.len
 have HA := Hi hxa
 have HB := Hi hxb
 have HZZ : Hid (zI na la + zI na lb = z) := Hi (by rw [ia.val, ib.val]; exact hz)
 have hbe : (na == na) = true := by cases na <;> rfl
 clear hz hxa hxb
 go_enter Tryz.func19, Tryz.ntmps19
 go_wp2_with fail
 refine (RIs_iv (ia.below (ba (ba (ba (b0 _) _) _) _))).mono ?_
 rintro e w0 ⟨rfl, hb0⟩
 have hbx0 := (Box2.new ((w.alloc (.cells #[.bool na, .slice A la.length ca] 24)).alloc (.cells #[.bool na, .slice B lb.length cb] 24)) (.bool false) (.slice none 0 0)).below hb0
 rw [World.size_alloc, World.size_alloc] at hbx0
 have hby0 := (((Box2.new w (.bool na) (.slice A la.length ca)).alloc (.cells #[.bool na, .slice B lb.length cb] 24)).alloc (.cells #[.bool false, .slice none 0 0] 24)).below hb0
 have hbz0 := ((Box2.new (w.alloc (.cells #[.bool na, .slice A la.length ca] 24)) (.bool na) (.slice B lb.length cb)).alloc (.cells #[.bool false, .slice none 0 0] 24)).below hb0
 rw [World.size_alloc] at hbz0
 have hK0 := bt (ba (ba (ba (b0 w) _) _) _) hb0
 obtain ⟨y2, y3⟩ := hbz0.cs
 go_wp2_with fail
 refine (RIs_iv (ib.below hK0)).mono ?_
 rintro e w1 ⟨rfl, hb1⟩
 have hbx := hbx0.below hb1
 have hby := hby0.below hb1
 have hbz := hbz0.below hb1
 have hK := bt hK0 hb1
 clear hbx0 hby0 hbz0 hK0 hb0 hb1 y2 y3
 obtain ⟨y0, y1⟩ := hby.cs
 obtain ⟨y2, y3⟩ := hbz.cs
 have hwA := ia.ws.below hK
 have hwB := ib.ws.below hK
 go_wp2_with fail
 refine (Rnative_no (ia.below hK) HA.out).mono ?_
 exact m8bb12
theorem RAdd_ge_nn (ia : IV w na A ca la x) (ib : IV w nb B cb lb y) (hz : x + y = z) (hlt : Lt 300 z) (hxa : 4611686018427387904 ≤ x.natAbs) (hxb : 4611686018427387904 ≤ y.natAbs) (hne : (na == nb) = false) (hle : val lb ≤ val la) :
  Calls Tryz.prog 19 #[.agg #[.bool na, .slice A la.length ca], .agg #[.bool nb, .slice B lb.length cb]] w (RIV w z) := by
 have ea := ia.len
 have eb := ib.len
 have HA := Hi hxa
 have HB := Hi hxb
 have HLE := Hi hle
 have HNE := Hi hne
 have HZZ : Hid (zI na la + zI nb lb = z) := Hi (by rw [ia.val, ib.val]; exact hz)
 obtain ⟨cv, hcv⟩ : ∃ cv, cv = cmpN (val la) (val lb) := ⟨_, rfl⟩
 have hcv0 : 0 ≤ cv := by rw [hcv]; unfold cmpN; (repeat' split) <;> omega
 have HCV := Hi hcv
 clear hz hxa hxb hle hcv
 go_enter Tryz.func19, Tryz.ntmps19
 go_wp2_with fail
 refine (RIs_iv (ia.below (ba (ba (ba (b0 _) _) _) _))).mono ?_
 rintro e w0 ⟨rfl, hb0⟩
 have hbx0 := (Box2.new ((w.alloc (.cells #[.bool na, .slice A la.length ca] 24)).alloc (.cells #[.bool nb, .slice B lb.length cb] 24)) (.bool false) (.slice none 0 0)).below hb0
 rw [World.size_alloc, World.size_alloc] at hbx0
 have hby0 := (((Box2.new w (.bool na) (.slice A la.length ca)).alloc (.cells #[.bool nb, .slice B lb.length cb] 24)).alloc (.cells #[.bool false, .slice none 0 0] 24)).below hb0
 have hbz0 := ((Box2.new (w.alloc (.cells #[.bool na, .slice A la.length ca] 24)) (.bool nb) (.slice B lb.length cb)).alloc (.cells #[.bool false, .slice none 0 0] 24)).below hb0
 rw [World.size_alloc] at hbz0
 have hK0 := bt (ba (ba (ba (b0 w) _) _) _) hb0
 obtain ⟨y2, y3⟩ := hbz0.cs
 go_wp2_with fail
 refine (RIs_iv (ib.below hK0)).mono ?_
 rintro e w1 ⟨rfl, hb1⟩
 have hbx := hbx0.below hb1
 have hby := hby0.below hb1
 have hbz := hbz0.below hb1
 have hK := bt hK0 hb1
 clear hbx0 hby0 hbz0 hK0 hb0 hb1 y2 y3
 obtain ⟨y0, y1⟩ := hby.cs
 obtain ⟨y2, y3⟩ := hbz.cs
 have hwA := ia.ws.below hK
 have hwB := ib.ws.below hK
 go_wp2_with fail
 refine (Rnative_no (ia.below hK) HA.out).mono ?_
 exact m5f5fe
theorem RAdd_lt_nn (ia : IV w na A ca la x) (ib : IV w nb B cb lb y) (hz : x + y = z) (hlt : Lt 300 z) (hxa : 4611686018427387904 ≤ x.natAbs) (hxb : 4611686018427387904 ≤ y.natAbs) (hne : (na == nb) = false) (hle : val la < val lb) :
  Calls Tryz.prog 19 #[.agg #[.bool na, .slice A la.length ca], .agg #[.bool nb, .slice B lb.length cb]] w (RIV w z) := by
 have ea := ia.len
 have eb := ib.len
 have HA := Hi hxa
 have HB := Hi hxb
 have HLT := Hi hle
 have HLE : Hid (val la ≤ val lb) := Hi (Nat.le_of_lt hle)
 have HNE := Hi hne
 have HZZ : Hid (zI na la + zI nb lb = z) := Hi (by rw [ia.val, ib.val]; exact hz)
 obtain ⟨cv, hcv⟩ : ∃ cv, cv = cmpN (val la) (val lb) := ⟨_, rfl⟩
 have hcv0 : ¬ 0 ≤ cv := by rw [hcv]; unfold cmpN; (repeat' split) <;> omega
 have HCV := Hi hcv
 clear hz hxa hxb hle hcv
 go_enter Tryz.func19, Tryz.ntmps19
 go_wp2_with fail
 refine (RIs_iv (ia.below (ba (ba (ba (b0 _) _) _) _))).mono ?_
 rintro e w0 ⟨rfl, hb0⟩
 have hbx0 := (Box2.new ((w.alloc (.cells #[.bool na, .slice A la.length ca] 24)).alloc (.cells #[.bool nb, .slice B lb.length cb] 24)) (.bool false) (.slice none 0 0)).below hb0
 rw [World.size_alloc, World.size_alloc] at hbx0
 have hby0 := (((Box2.new w (.bool na) (.slice A la.length ca)).alloc (.cells #[.bool nb, .slice B lb.length cb] 24)).alloc (.cells #[.bool false, .slice none 0 0] 24)).below hb0
 have hbz0 := ((Box2.new (w.alloc (.cells #[.bool na, .slice A la.length ca] 24)) (.bool nb) (.slice B lb.length cb)).alloc (.cells #[.bool false, .slice none 0 0] 24)).below hb0
 rw [World.size_alloc] at hbz0
 have hK0 := bt (ba (ba (ba (b0 w) _) _) _) hb0
 obtain ⟨y2, y3⟩ := hbz0.cs
 go_wp2_with fail
 refine (RIs_iv (ib.below hK0)).mono ?_
 rintro e w1 ⟨rfl, hb1⟩
 have hbx := hbx0.below hb1
 have hby := hby0.below hb1
 have hbz := hbz0.below hb1
 have hK := bt hK0 hb1
 clear hbx0 hby0 hbz0 hK0 hb0 hb1 y2 y3
 obtain ⟨y0, y1⟩ := hby.cs
 obtain ⟨y2, y3⟩ := hbz.cs
 have hwA := ia.ws.below hK
 have hwB := ib.ws.below hK
 go_wp2_with fail
 refine (Rnative_no (ia.below hK) HA.out).mono ?_
 exact m0ed57
theorem RAdd_iv (ia : IV w na A ca la x) (ib : IV w nb B cb lb y) (hz : x + y = z) (hlt : Lt 300 z) :
  Calls Tryz.prog 19 #[.agg #[.bool na, .slice A la.length ca], .agg #[.bool nb, .slice B lb.length cb]] w (RIV w z) := by
 rcases Nat.lt_or_ge x.natAbs 4611686018427387904 with hxa | hxa <;> rcases Nat.lt_or_ge y.natAbs 4611686018427387904 with hxb | hxb
 ·exact RAdd_yy ia ib hz hlt hxa hxb
 ·rcases Bool.eq_false_or_eq_true (na == nb) with h | h
  ·obtain rfl : na = nb := by simpa using h
   exact RAdd_same_yn ia ib hz hlt hxa hxb
  ·rcases Nat.lt_or_ge (val la) (val lb) with h2 | h2
   ·exact RAdd_lt_yn ia ib hz hlt hxa hxb h h2
   ·exact RAdd_ge_yn ia ib hz hlt hxa hxb h h2
 ·rcases Bool.eq_false_or_eq_true (na == nb) with h | h
  ·obtain rfl : na = nb := by simpa using h
   exact RAdd_same_ny ia ib hz hlt hxa hxb
  ·rcases Nat.lt_or_ge (val la) (val lb) with h2 | h2
   ·exact RAdd_lt_ny ia ib hz hlt hxa hxb h h2
   ·exact RAdd_ge_ny ia ib hz hlt hxa hxb h h2
 ·rcases Bool.eq_false_or_eq_true (na == nb) with h | h
  ·obtain rfl : na = nb := by simpa using h
   exact RAdd_same_nn ia ib hz hlt hxa hxb
  ·rcases Nat.lt_or_ge (val la) (val lb) with h2 | h2
   ·exact RAdd_lt_nn ia ib hz hlt hxa hxb h h2
   ·exact RAdd_ge_nn ia ib hz hlt hxa hxb h h2
end Go.Proofs.YtgljdfblgpdaaaaGreatDoor
