import Derived.Test.YtgljdfblgpdaaaaGreatDoorPbRatI
set_option linter.unusedSimpArgs false
set_option linter.unusedVariables false
set_option maxRecDepth 100000
set_option maxHeartbeats 4000000
namespace Go.Proofs.YtgljdfblgpdaaaaGreatDoor
open Go.RowKit Go.Shelf
variable {A B : Option Addr} {ca cb : Nat} {l la lb : List Nat} {na nb : Bool} {w : World} {x y : Int}
theorem one_st (W : World) : WS (W.alloc (.cells #[.int .u32 1] 83)) (some ⟨W.heap.size, 0, none⟩) [1] := by
 have hone : Blk (W.alloc (.cells #[.int .u32 1] 83)) W.heap.size [1] := Blk.new W [1] (by simp)
 have hws := hone.ws (o := 0) (n := 1) (by simp)
 rwa [List.drop_zero, show List.take 1 [1] = [1] from rfl] at hws
theorem one_st2 (W : World) {g : Nat} (hg : g = W.heap.size) : WS (W.alloc (.cells #[.int .u32 1] 83)) (some ⟨g, 0, none⟩) [1] := by
 subst hg
 exact one_st W
theorem div_sign_q (hp : 0 < val lb) (h : val l = val la / val lb) (ok : na = false ∨ val la % val lb = 0) : zI (na != nb) l = zI na la / zI nb lb := by
 have hs := ediv_signs (val la) (val lb) hp
 cases na <;> cases nb
 ·show (val l : Int) = (val la : Int) / (val lb : Int)
  rw [h, hs.1.1]
 ·show -(val l : Int) = (val la : Int) / -(val lb : Int)
  rw [h, hs.2.1.1]
 ·have h0 : val la % val lb = 0 := by rcases ok with h1 | h1; cases h1; exact h1
  show -(val l : Int) = -(val la : Int) / (val lb : Int)
  rw [h, (hs.2.2.1 h0).1]
 ·have h0 : val la % val lb = 0 := by rcases ok with h1 | h1; cases h1; exact h1
  show (val l : Int) = -(val la : Int) / -(val lb : Int)
  rw [h, (hs.2.2.1 h0).2.2.1]
theorem div_sign_r (hp : 0 < val lb) (h : val l = val la % val lb) (ok : na = false ∨ val la % val lb = 0) : zI false l = zI na la % zI nb lb := by
 have hs := ediv_signs (val la) (val lb) hp
 cases na <;> cases nb
 ·show (val l : Int) = (val la : Int) % (val lb : Int)
  rw [h, hs.1.2]
 ·show (val l : Int) = (val la : Int) % -(val lb : Int)
  rw [h, hs.2.1.2]
 ·have h0 : val la % val lb = 0 := by rcases ok with h1 | h1; cases h1; exact h1
  show (val l : Int) = -(val la : Int) % (val lb : Int)
  rw [h, h0, (hs.2.2.1 h0).2.1]; rfl
 ·have h0 : val la % val lb = 0 := by rcases ok with h1 | h1; cases h1; exact h1
  show (val l : Int) = -(val la : Int) % -(val lb : Int)
  rw [h, h0, (hs.2.2.1 h0).2.2.2]; rfl
theorem m3e220 {P : Prop} (h : P := by
 rintro e w2 ⟨rfl, hb2⟩
 replace hba := hba.below hb2
 replace hbb := hbb.below hb2
 replace hbq := hbq.below hb2
 replace hbr := hbr.below hb2
 replace hK := bt hK hb2
 clear y0 y1 y2 y3 hwA hwB
 obtain ⟨w1, hw1⟩ : ∃ v, v = w2 := ⟨_, rfl⟩
 try rw [← hw1] at hb2
 rw [← hw1] at hba hbb hbq hbr hK ⊢
 clear hw1
 obtain ⟨y0, y1⟩ := hba.cs
 obtain ⟨y2, y3⟩ := hbb.cs
 have hwA := ia.ws.below hK
 have hwB := ib.ws.below hK
 clear hb2
 go_wp2_with fail
 refine (RdivWords_any A B ca cb la lb w1 (by omega) (by omega) ia.cap (isB_top ia.can) (isB_top ib.can) (by omega) hwA hwB).mono ?_
 rintro e w2 ⟨A6, c6, l6, A7, c7, l7, rfl, hc6, hc7, hs6, hs7, ht6, ht7, hv6, hv7, hb2⟩
 have hl6 := len_le ht6 hwA.1 (by rw [hv6]; exact Nat.div_le_self _ _)
 have hl7 := len_le ht7 hwB.1 (by rw [hv7]; exact Nat.le_of_lt (Nat.mod_lt _ HPB.out))
 have HV6 := Hi hv6
 have HV7 := Hi hv7
 have hba2 := hba.below hb2
 have hbb2 := hbb.below hb2
 have hbq2 := hbq.below hb2
 have hbr2 := hbr.below hb2
 have hK2 := bt hK hb2
 clear y0 y1 y2 y3 hv6 hv7
 obtain ⟨y0, y1⟩ := hba2.cs
 obtain ⟨y2, y3⟩ := hbb2.cs
 go_wp2_with fail
 refine (Rmade_any w2 w2 _ A6 l6.length c6 l6 rfl (by omega) hc6 hs6 (b0 _)).mono ?_
 rintro e w3 ⟨n1, A1, c1, l1, rfl, hc1, hs1, hB1, hz1, hb3⟩
 have HZ1 := Hi hz1
 clear hz1 y0 y1 y2 y3
 go_wp2_with fail
 refine (Rmade_any w3 w3 false A7 l7.length c7 l7 rfl (by omega) hc7 (hs7.below hb3) (b0 _)).mono ?_
 rintro e w4 ⟨n2, A2, c2, l2, rfl, hc2, hs2, hB2, hz2, hb4⟩
 have hzq : zI n1 l1 = x / y := by
  rw [HZ1.out, HXX.out.1, HXX.out.2]
  have g := div_sign_q (na := false) (nb := nb) HPB.out HV6.out (.inl rfl)
  revert g
  cases nb <;> exact id
 have hzr : zI n2 l2 = x % y := by
  rw [hz2, HXX.out.1, HXX.out.2]
  exact div_sign_r (na := false) (nb := nb) HPB.out HV7.out (.inl rfl)
 have i1 : IV w3 n1 A1 c1 l1 (x / y) := .of hc1 hs1 hB1 hzq HLX.out
 have i2 : IV w4 n2 A2 c2 l2 (x % y) := .of hc2 hs2 hB2 hzr HLR.out
 have hbq5 := (hbq2.below hb3).below hb4
 have hbr5 := (hbr2.below hb3).below hb4
 have HK5 := Hi (bt (bt hK2 hb3) hb4)
 clear hz2 hzq hzr hc1 hs1 hB1 hc2 hs2 hB2
 have HI1 := Hi (i1.below hb4)
 exact m82d80) : P := h
theorem mbd048 {P : Prop} (h : P := by
 rintro e w2 ⟨rfl, hb2⟩
 replace hba := hba.below hb2
 replace hbb := hbb.below hb2
 replace hbq := hbq.below hb2
 replace hbr := hbr.below hb2
 replace hK := bt hK hb2
 clear y0 y1 y2 y3 hwA hwB
 obtain ⟨w1, hw1⟩ : ∃ v, v = w2 := ⟨_, rfl⟩
 try rw [← hw1] at hb2
 rw [← hw1] at hba hbb hbq hbr hK ⊢
 clear hw1
 obtain ⟨y0, y1⟩ := hba.cs
 obtain ⟨y2, y3⟩ := hbb.cs
 have hwA := ia.ws.below hK
 have hwB := ib.ws.below hK
 clear hb2
 go_wp2_with fail
 refine (Rnative_no (ib.below hK) HXB.out).mono ?_
 exact m3e220) : P := h
theorem mb7796 {P : Prop} (h : P := by
 have := (Box2.new (((w.alloc (.cells #[.bool false, .slice A la.length ca] 24)).alloc (.cells #[.bool nb, .slice B lb.length cb] 24)).alloc (.cells #[.bool false, .slice none 0 0] 24)) (.bool false) (.slice none 0 0)).below hb0
 simpa using this) : P := h
theorem m58943 {P : Prop} (h : P := by
 have := ((Box2.new ((w.alloc (.cells #[.bool false, .slice A la.length ca] 24)).alloc (.cells #[.bool nb, .slice B lb.length cb] 24)) (.bool false) (.slice none 0 0)).alloc _).below hb0
 simpa using this) : P := h
theorem mdbb7a {P : Prop} (h : P := by
 have := (((Box2.new (w.alloc (.cells #[.bool false, .slice A la.length ca] 24)) (.bool nb) (.slice B lb.length cb)).alloc _).alloc _).below hb0
 simpa using this) : P := h
theorem RDiv_w_yn_f (ia : IV w false A ca la x) (ib : IV w nb B cb lb y) (hy : y ≠ 0) (hxa : x.natAbs < 4611686018427387904) (hxb : 4611686018427387904 ≤ y.natAbs) :
  Calls Tryz.prog 14 #[.agg #[.bool false, .slice A la.length ca], .agg #[.bool nb, .slice B lb.length cb]] w (RDIV w (x / y) (x % y)) := by
 have ea := ia.len
 have eb := ib.len
 have HXA := Hi hxa
 have HXB := Hi hxb
 have HVA : Hid (val la = x.natAbs) := Hi (by rw [← ia.val]; unfold zI; split <;> simp)
 have HVB : Hid (val lb = y.natAbs) := Hi (by rw [← ib.val]; unfold zI; split <;> simp)
 have hlb0 : lb.length ≠ 0 := fun h => hy ((by have h1 := ib.val; rw [List.eq_nil_of_length_eq_zero h, zI_nil] at h1; exact h1.symm))
 have hlz : ((lb.length : Int) == 0) = false := beq_eq_false_iff_ne.2 (by omega)
 have HLX := Hi (lt_ediv (y := y) (lt_le (lt_val ia.ws ia.val) ia.len))
 have HLR := Hi (lt_emod (x := x) hy (lt_le (lt_val ib.ws ib.val) ib.len))
 have hpb : 0 < val lb := val_pos (isB_top ib.can) (by omega)
 have HPB := Hi hpb
 have HSG := Hi (ediv_signs (val la) (val lb) hpb)
 have HXX : Hid (x = zI false la ∧ y = zI nb lb) := Hi ⟨ia.val.symm, ib.val.symm⟩
 skip
 clear hxa hxb hy hpb
 go_enter Tryz.func14, Tryz.ntmps14
 go_wp2_with fail
 refine (RIs_iv (ia.below (ba (ba (ba (ba (b0 _) _) _) _) _))).mono ?_
 rintro e w0 ⟨rfl, hb0⟩
 have hba0 : Box2 w0 w.heap.size (.bool false) (.slice A la.length ca) := ((((Box2.new w (.bool false) (.slice A la.length ca)).alloc _).alloc _).alloc _).below hb0
 have hbb0 : Box2 w0 (w.heap.size + 1) (.bool nb) (.slice B lb.length cb) := by
  exact mdbb7a
 have hbq0 : Box2 w0 (w.heap.size + 1 + 1) (.bool false) (.slice none 0 0) := by
  exact m58943
 have hbr0 : Box2 w0 (w.heap.size + 1 + 1 + 1) (.bool false) (.slice none 0 0) := by
  exact mb7796
 have hK0 := bt (ba (ba (ba (ba (b0 w) _) _) _) _) hb0
 obtain ⟨y2, y3⟩ := hbb0.cs
 go_wp2_with fail
 refine (RIs_iv (ib.below hK0)).mono ?_
 rintro e w1 ⟨rfl, hb1⟩
 have hba := hba0.below hb1
 have hbb := hbb0.below hb1
 have hbq := hbq0.below hb1
 have hbr := hbr0.below hb1
 have hK := bt hK0 hb1
 clear hba0 hbb0 hbq0 hbr0 hK0 hb0 hb1 y2 y3
 obtain ⟨y0, y1⟩ := hba.cs
 obtain ⟨y2, y3⟩ := hbb.cs
 have hwA := ia.ws.below hK
 have hwB := ib.ws.below hK
 go_wp2_with fail
 refine (Rnative_yes (ia.below hK) HXA.out).mono ?_
 exact mbd048
theorem m93e43 {P : Prop} (h : P := by
 rintro e w2 ⟨rfl, hb2⟩
 replace hba := hba.below hb2
 replace hbb := hbb.below hb2
 replace hbq := hbq.below hb2
 replace hbr := hbr.below hb2
 replace hK := bt hK hb2
 clear y0 y1 y2 y3 hwA hwB
 obtain ⟨w1, hw1⟩ : ∃ v, v = w2 := ⟨_, rfl⟩
 try rw [← hw1] at hb2
 rw [← hw1] at hba hbb hbq hbr hK ⊢
 clear hw1
 obtain ⟨y0, y1⟩ := hba.cs
 obtain ⟨y2, y3⟩ := hbb.cs
 have hwA := ia.ws.below hK
 have hwB := ib.ws.below hK
 clear hb2
 go_wp2_with fail
 refine (RdivWords_any A B ca cb la lb w1 (by omega) (by omega) ia.cap (isB_top ia.can) (isB_top ib.can) (by omega) hwA hwB).mono ?_
 rintro e w2 ⟨A6, c6, l6, A7, c7, l7, rfl, hc6, hc7, hs6, hs7, ht6, ht7, hv6, hv7, hb2⟩
 have hl6 := len_le ht6 hwA.1 (by rw [hv6]; exact Nat.div_le_self _ _)
 have hl7 := len_le ht7 hwB.1 (by rw [hv7]; exact Nat.le_of_lt (Nat.mod_lt _ HPB.out))
 have HV6 := Hi hv6
 have HV7 := Hi hv7
 have hl70 : l7.length = 0 := (val_eq_zero ht7).1 (by rw [hv7]; exact H0.out)
 obtain rfl := List.eq_nil_of_length_eq_zero hl70
 have hba2 := hba.below hb2
 have hbb2 := hbb.below hb2
 have hbq2 := hbq.below hb2
 have hbr2 := hbr.below hb2
 have hK2 := bt hK hb2
 clear y0 y1 y2 y3 hv6 hv7 hl70
 obtain ⟨y0, y1⟩ := hba2.cs
 obtain ⟨y2, y3⟩ := hbb2.cs
 go_wp2_with fail
 refine (Rmade_any w2 w2 _ A6 l6.length c6 l6 rfl (by omega) hc6 hs6 (b0 _)).mono ?_
 rintro e w3 ⟨n1, A1, c1, l1, rfl, hc1, hs1, hB1, hz1, hb3⟩
 have HZ1 := Hi hz1
 clear hz1 y0 y1 y2 y3
 go_wp2_with fail
 refine (Rmade_any w3 w3 false A7 0 c7 [] rfl (by decide) hc7 (hs7.below hb3) (b0 _)).mono ?_
 rintro e w4 ⟨n2, A2, c2, l2, rfl, hc2, hs2, hB2, hz2, hb4⟩
 have hzq : zI n1 l1 = x / y := by
  rw [HZ1.out, HXX.out.1, HXX.out.2]
  have g := div_sign_q (na := true) (nb := nb) HPB.out HV6.out (.inr H0.out)
  revert g
  cases nb <;> exact id
 have hzr : zI n2 l2 = x % y := by
  rw [hz2, HXX.out.1, HXX.out.2]
  exact div_sign_r (na := true) (nb := nb) HPB.out HV7.out (.inr H0.out)
 have i1 : IV w3 n1 A1 c1 l1 (x / y) := .of hc1 hs1 hB1 hzq HLX.out
 have i2 : IV w4 n2 A2 c2 l2 (x % y) := .of hc2 hs2 hB2 hzr HLR.out
 have hbq5 := (hbq2.below hb3).below hb4
 have hbr5 := (hbr2.below hb3).below hb4
 have HK5 := Hi (bt (bt hK2 hb3) hb4)
 clear hz2 hzq hzr hc1 hs1 hB1 hc2 hs2 hB2
 have HI1 := Hi (i1.below hb4)
 exact m82d80) : P := h
theorem mebbc0 {P : Prop} (h : P := by
 have := ((Box2.new ((w.alloc (.cells #[.bool true, .slice A la.length ca] 24)).alloc (.cells #[.bool nb, .slice B lb.length cb] 24)) (.bool false) (.slice none 0 0)).alloc _).below hb0
 simpa using this) : P := h
theorem ma879a {P : Prop} (h : P := by
 have := (((Box2.new (w.alloc (.cells #[.bool true, .slice A la.length ca] 24)) (.bool nb) (.slice B lb.length cb)).alloc _).alloc _).below hb0
 simpa using this) : P := h
theorem m79963 {P : Prop} (h : P := by
 rintro e w2 ⟨rfl, hb2⟩
 replace hba := hba.below hb2
 replace hbb := hbb.below hb2
 replace hbq := hbq.below hb2
 replace hbr := hbr.below hb2
 replace hK := bt hK hb2
 clear y0 y1 y2 y3 hwA hwB
 obtain ⟨w1, hw1⟩ : ∃ v, v = w2 := ⟨_, rfl⟩
 try rw [← hw1] at hb2
 rw [← hw1] at hba hbb hbq hbr hK ⊢
 clear hw1
 obtain ⟨y0, y1⟩ := hba.cs
 obtain ⟨y2, y3⟩ := hbb.cs
 have hwA := ia.ws.below hK
 have hwB := ib.ws.below hK
 clear hb2
 go_wp2_with fail
 refine (Rnative_no (ib.below hK) HXB.out).mono ?_
 exact m93e43) : P := h
theorem mec116 {P : Prop} (h : P := by
 have := (Box2.new (((w.alloc (.cells #[.bool true, .slice A la.length ca] 24)).alloc (.cells #[.bool nb, .slice B lb.length cb] 24)).alloc (.cells #[.bool false, .slice none 0 0] 24)) (.bool false) (.slice none 0 0)).below hb0
 simpa using this) : P := h
theorem RDiv_w_yn_t (ia : IV w true A ca la x) (ib : IV w nb B cb lb y) (hy : y ≠ 0) (hxa : x.natAbs < 4611686018427387904) (hxb : 4611686018427387904 ≤ y.natAbs) (h0 : val la % val lb = 0) :
  Calls Tryz.prog 14 #[.agg #[.bool true, .slice A la.length ca], .agg #[.bool nb, .slice B lb.length cb]] w (RDIV w (x / y) (x % y)) := by
 have ea := ia.len
 have eb := ib.len
 have HXA := Hi hxa
 have HXB := Hi hxb
 have HVA : Hid (val la = x.natAbs) := Hi (by rw [← ia.val]; unfold zI; split <;> simp)
 have HVB : Hid (val lb = y.natAbs) := Hi (by rw [← ib.val]; unfold zI; split <;> simp)
 have hlb0 : lb.length ≠ 0 := fun h => hy ((by have h1 := ib.val; rw [List.eq_nil_of_length_eq_zero h, zI_nil] at h1; exact h1.symm))
 have hlz : ((lb.length : Int) == 0) = false := beq_eq_false_iff_ne.2 (by omega)
 have HLX := Hi (lt_ediv (y := y) (lt_le (lt_val ia.ws ia.val) ia.len))
 have HLR := Hi (lt_emod (x := x) hy (lt_le (lt_val ib.ws ib.val) ib.len))
 have hpb : 0 < val lb := val_pos (isB_top ib.can) (by omega)
 have HPB := Hi hpb
 have HSG := Hi (ediv_signs (val la) (val lb) hpb)
 have HXX : Hid (x = zI true la ∧ y = zI nb lb) := Hi ⟨ia.val.symm, ib.val.symm⟩
 have H0 := Hi h0
 clear hxa hxb hy hpb h0
 go_enter Tryz.func14, Tryz.ntmps14
 go_wp2_with fail
 refine (RIs_iv (ia.below (ba (ba (ba (ba (b0 _) _) _) _) _))).mono ?_
 rintro e w0 ⟨rfl, hb0⟩
 have hba0 : Box2 w0 w.heap.size (.bool true) (.slice A la.length ca) := ((((Box2.new w (.bool true) (.slice A la.length ca)).alloc _).alloc _).alloc _).below hb0
 have hbb0 : Box2 w0 (w.heap.size + 1) (.bool nb) (.slice B lb.length cb) := by
  exact ma879a
 have hbq0 : Box2 w0 (w.heap.size + 1 + 1) (.bool false) (.slice none 0 0) := by
  exact mebbc0
 have hbr0 : Box2 w0 (w.heap.size + 1 + 1 + 1) (.bool false) (.slice none 0 0) := by
  exact mec116
 have hK0 := bt (ba (ba (ba (ba (b0 w) _) _) _) _) hb0
 obtain ⟨y2, y3⟩ := hbb0.cs
 go_wp2_with fail
 refine (RIs_iv (ib.below hK0)).mono ?_
 rintro e w1 ⟨rfl, hb1⟩
 have hba := hba0.below hb1
 have hbb := hbb0.below hb1
 have hbq := hbq0.below hb1
 have hbr := hbr0.below hb1
 have hK := bt hK0 hb1
 clear hba0 hbb0 hbq0 hbr0 hK0 hb0 hb1 y2 y3
 obtain ⟨y0, y1⟩ := hba.cs
 obtain ⟨y2, y3⟩ := hbb.cs
 have hwA := ia.ws.below hK
 have hwB := ib.ws.below hK
 go_wp2_with fail
 refine (Rnative_yes (ia.below hK) HXA.out).mono ?_
 exact m79963
theorem RDiv_w_ny_f (ia : IV w false A ca la x) (ib : IV w nb B cb lb y) (hy : y ≠ 0) (hxa : 4611686018427387904 ≤ x.natAbs) (hxb : y.natAbs < 4611686018427387904) :
  Calls Tryz.prog 14 #[.agg #[.bool false, .slice A la.length ca], .agg #[.bool nb, .slice B lb.length cb]] w (RDIV w (x / y) (x % y)) := by
 have ea := ia.len
 have eb := ib.len
 have HXA := Hi hxa
 have HXB := Hi hxb
 have HVA : Hid (val la = x.natAbs) := Hi (by rw [← ia.val]; unfold zI; split <;> simp)
 have HVB : Hid (val lb = y.natAbs) := Hi (by rw [← ib.val]; unfold zI; split <;> simp)
 have hlb0 : lb.length ≠ 0 := fun h => hy ((by have h1 := ib.val; rw [List.eq_nil_of_length_eq_zero h, zI_nil] at h1; exact h1.symm))
 have hlz : ((lb.length : Int) == 0) = false := beq_eq_false_iff_ne.2 (by omega)
 have HLX := Hi (lt_ediv (y := y) (lt_le (lt_val ia.ws ia.val) ia.len))
 have HLR := Hi (lt_emod (x := x) hy (lt_le (lt_val ib.ws ib.val) ib.len))
 have hpb : 0 < val lb := val_pos (isB_top ib.can) (by omega)
 have HPB := Hi hpb
 have HSG := Hi (ediv_signs (val la) (val lb) hpb)
 have HXX : Hid (x = zI false la ∧ y = zI nb lb) := Hi ⟨ia.val.symm, ib.val.symm⟩
 skip
 clear hxa hxb hy hpb
 go_enter Tryz.func14, Tryz.ntmps14
 go_wp2_with fail
 refine (RIs_iv (ia.below (ba (ba (ba (ba (b0 _) _) _) _) _))).mono ?_
 rintro e w0 ⟨rfl, hb0⟩
 have hba0 : Box2 w0 w.heap.size (.bool false) (.slice A la.length ca) := ((((Box2.new w (.bool false) (.slice A la.length ca)).alloc _).alloc _).alloc _).below hb0
 have hbb0 : Box2 w0 (w.heap.size + 1) (.bool nb) (.slice B lb.length cb) := by
  exact mdbb7a
 have hbq0 : Box2 w0 (w.heap.size + 1 + 1) (.bool false) (.slice none 0 0) := by
  exact m58943
 have hbr0 : Box2 w0 (w.heap.size + 1 + 1 + 1) (.bool false) (.slice none 0 0) := by
  exact mb7796
 have hK0 := bt (ba (ba (ba (ba (b0 w) _) _) _) _) hb0
 obtain ⟨y2, y3⟩ := hbb0.cs
 go_wp2_with fail
 refine (RIs_iv (ib.below hK0)).mono ?_
 rintro e w1 ⟨rfl, hb1⟩
 have hba := hba0.below hb1
 have hbb := hbb0.below hb1
 have hbq := hbq0.below hb1
 have hbr := hbr0.below hb1
 have hK := bt hK0 hb1
 clear hba0 hbb0 hbq0 hbr0 hK0 hb0 hb1 y2 y3
 obtain ⟨y0, y1⟩ := hba.cs
 obtain ⟨y2, y3⟩ := hbb.cs
 have hwA := ia.ws.below hK
 have hwB := ib.ws.below hK
 go_wp2_with fail
 refine (Rnative_no (ia.below hK) HXA.out).mono ?_
 rintro e w2 ⟨rfl, hb2⟩
 replace hba := hba.below hb2
 replace hbb := hbb.below hb2
 replace hbq := hbq.below hb2
 replace hbr := hbr.below hb2
 replace hK := bt hK hb2
 clear y0 y1 y2 y3 hwA hwB
 obtain ⟨w1, hw1⟩ : ∃ v, v = w2 := ⟨_, rfl⟩
 try rw [← hw1] at hb2
 rw [← hw1] at hba hbb hbq hbr hK ⊢
 clear hw1
 obtain ⟨y0, y1⟩ := hba.cs
 obtain ⟨y2, y3⟩ := hbb.cs
 have hwA := ia.ws.below hK
 have hwB := ib.ws.below hK
 clear hb2
 go_wp2_with fail
 refine (Rnative_yes (ib.below hK) HXB.out).mono ?_
 exact m3e220
theorem RDiv_w_ny_t (ia : IV w true A ca la x) (ib : IV w nb B cb lb y) (hy : y ≠ 0) (hxa : 4611686018427387904 ≤ x.natAbs) (hxb : y.natAbs < 4611686018427387904) (h0 : val la % val lb = 0) :
  Calls Tryz.prog 14 #[.agg #[.bool true, .slice A la.length ca], .agg #[.bool nb, .slice B lb.length cb]] w (RDIV w (x / y) (x % y)) := by
 have ea := ia.len
 have eb := ib.len
 have HXA := Hi hxa
 have HXB := Hi hxb
 have HVA : Hid (val la = x.natAbs) := Hi (by rw [← ia.val]; unfold zI; split <;> simp)
 have HVB : Hid (val lb = y.natAbs) := Hi (by rw [← ib.val]; unfold zI; split <;> simp)
 have hlb0 : lb.length ≠ 0 := fun h => hy ((by have h1 := ib.val; rw [List.eq_nil_of_length_eq_zero h, zI_nil] at h1; exact h1.symm))
 have hlz : ((lb.length : Int) == 0) = false := beq_eq_false_iff_ne.2 (by omega)
 have HLX := Hi (lt_ediv (y := y) (lt_le (lt_val ia.ws ia.val) ia.len))
 have HLR := Hi (lt_emod (x := x) hy (lt_le (lt_val ib.ws ib.val) ib.len))
 have hpb : 0 < val lb := val_pos (isB_top ib.can) (by omega)
 have HPB := Hi hpb
 have HSG := Hi (ediv_signs (val la) (val lb) hpb)
 have HXX : Hid (x = zI true la ∧ y = zI nb lb) := Hi ⟨ia.val.symm, ib.val.symm⟩
 have H0 := Hi h0
 clear hxa hxb hy hpb h0
 go_enter Tryz.func14, Tryz.ntmps14
 go_wp2_with fail
 refine (RIs_iv (ia.below (ba (ba (ba (ba (b0 _) _) _) _) _))).mono ?_
 rintro e w0 ⟨rfl, hb0⟩
 have hba0 : Box2 w0 w.heap.size (.bool true) (.slice A la.length ca) := ((((Box2.new w (.bool true) (.slice A la.length ca)).alloc _).alloc _).alloc _).below hb0
 have hbb0 : Box2 w0 (w.heap.size + 1) (.bool nb) (.slice B lb.length cb) := by
  exact ma879a
 have hbq0 : Box2 w0 (w.heap.size + 1 + 1) (.bool false) (.slice none 0 0) := by
  exact mebbc0
 have hbr0 : Box2 w0 (w.heap.size + 1 + 1 + 1) (.bool false) (.slice none 0 0) := by
  exact mec116
 have hK0 := bt (ba (ba (ba (ba (b0 w) _) _) _) _) hb0
 obtain ⟨y2, y3⟩ := hbb0.cs
 go_wp2_with fail
 refine (RIs_iv (ib.below hK0)).mono ?_
 rintro e w1 ⟨rfl, hb1⟩
 have hba := hba0.below hb1
 have hbb := hbb0.below hb1
 have hbq := hbq0.below hb1
 have hbr := hbr0.below hb1
 have hK := bt hK0 hb1
 clear hba0 hbb0 hbq0 hbr0 hK0 hb0 hb1 y2 y3
 obtain ⟨y0, y1⟩ := hba.cs
 obtain ⟨y2, y3⟩ := hbb.cs
 have hwA := ia.ws.below hK
 have hwB := ib.ws.below hK
 go_wp2_with fail
 refine (Rnative_no (ia.below hK) HXA.out).mono ?_
 rintro e w2 ⟨rfl, hb2⟩
 replace hba := hba.below hb2
 replace hbb := hbb.below hb2
 replace hbq := hbq.below hb2
 replace hbr := hbr.below hb2
 replace hK := bt hK hb2
 clear y0 y1 y2 y3 hwA hwB
 obtain ⟨w1, hw1⟩ : ∃ v, v = w2 := ⟨_, rfl⟩
 try rw [← hw1] at hb2
 rw [← hw1] at hba hbb hbq hbr hK ⊢
 clear hw1
 obtain ⟨y0, y1⟩ := hba.cs
 obtain ⟨y2, y3⟩ := hbb.cs
 have hwA := ia.ws.below hK
 have hwB := ib.ws.below hK
 clear hb2
 go_wp2_with fail
 refine (Rnative_yes (ib.below hK) HXB.out).mono ?_
 exact m93e43
theorem RDiv_w_nn_f (ia : IV w false A ca la x) (ib : IV w nb B cb lb y) (hy : y ≠ 0) (hxa : 4611686018427387904 ≤ x.natAbs) (hxb : 4611686018427387904 ≤ y.natAbs) :
  Calls Tryz.prog 14 #[.agg #[.bool false, .slice A la.length ca], .agg #[.bool nb, .slice B lb.length cb]] w (RDIV w (x / y) (x % y)) := by
 have ea := ia.len
 have eb := ib.len
 have HXA := Hi hxa
 have HXB := Hi hxb
 have HVA : Hid (val la = x.natAbs) := Hi (by rw [← ia.val]; unfold zI; split <;> simp)
 have HVB : Hid (val lb = y.natAbs) := Hi (by rw [← ib.val]; unfold zI; split <;> simp)
 have hlb0 : lb.length ≠ 0 := fun h => hy ((by have h1 := ib.val; rw [List.eq_nil_of_length_eq_zero h, zI_nil] at h1; exact h1.symm))
 have hlz : ((lb.length : Int) == 0) = false := beq_eq_false_iff_ne.2 (by omega)
 have HLX := Hi (lt_ediv (y := y) (lt_le (lt_val ia.ws ia.val) ia.len))
 have HLR := Hi (lt_emod (x := x) hy (lt_le (lt_val ib.ws ib.val) ib.len))
 have hpb : 0 < val lb := val_pos (isB_top ib.can) (by omega)
 have HPB := Hi hpb
 have HSG := Hi (ediv_signs (val la) (val lb) hpb)
 have HXX : Hid (x = zI false la ∧ y = zI nb lb) := Hi ⟨ia.val.symm, ib.val.symm⟩
 skip
 clear hxa hxb hy hpb
 go_enter Tryz.func14, Tryz.ntmps14
 go_wp2_with fail
 refine (RIs_iv (ia.below (ba (ba (ba (ba (b0 _) _) _) _) _))).mono ?_
 rintro e w0 ⟨rfl, hb0⟩
 have hba0 : Box2 w0 w.heap.size (.bool false) (.slice A la.length ca) := ((((Box2.new w (.bool false) (.slice A la.length ca)).alloc _).alloc _).alloc _).below hb0
 have hbb0 : Box2 w0 (w.heap.size + 1) (.bool nb) (.slice B lb.length cb) := by
  exact mdbb7a
 have hbq0 : Box2 w0 (w.heap.size + 1 + 1) (.bool false) (.slice none 0 0) := by
  exact m58943
 have hbr0 : Box2 w0 (w.heap.size + 1 + 1 + 1) (.bool false) (.slice none 0 0) := by
  exact mb7796
 have hK0 := bt (ba (ba (ba (ba (b0 w) _) _) _) _) hb0
 obtain ⟨y2, y3⟩ := hbb0.cs
 go_wp2_with fail
 refine (RIs_iv (ib.below hK0)).mono ?_
 rintro e w1 ⟨rfl, hb1⟩
 have hba := hba0.below hb1
 have hbb := hbb0.below hb1
 have hbq := hbq0.below hb1
 have hbr := hbr0.below hb1
 have hK := bt hK0 hb1
 clear hba0 hbb0 hbq0 hbr0 hK0 hb0 hb1 y2 y3
 obtain ⟨y0, y1⟩ := hba.cs
 obtain ⟨y2, y3⟩ := hbb.cs
 have hwA := ia.ws.below hK
 have hwB := ib.ws.below hK
 go_wp2_with fail
 refine (Rnative_no (ia.below hK) HXA.out).mono ?_
 exact mbd048
theorem RDiv_w_nn_t (ia : IV w true A ca la x) (ib : IV w nb B cb lb y) (hy : y ≠ 0) (hxa : 4611686018427387904 ≤ x.natAbs) (hxb : 4611686018427387904 ≤ y.natAbs) (h0 : val la % val lb = 0) :
  Calls Tryz.prog 14 #[.agg #[.bool true, .slice A la.length ca], .agg #[.bool nb, .slice B lb.length cb]] w (RDIV w (x / y) (x % y)) := by
 have ea := ia.len
 have eb := ib.len
 have HXA := Hi hxa
 have HXB := Hi hxb
 have HVA : Hid (val la = x.natAbs) := Hi (by rw [← ia.val]; unfold zI; split <;> simp)
 have HVB : Hid (val lb = y.natAbs) := Hi (by rw [← ib.val]; unfold zI; split <;> simp)
 have hlb0 : lb.length ≠ 0 := fun h => hy ((by have h1 := ib.val; rw [List.eq_nil_of_length_eq_zero h, zI_nil] at h1; exact h1.symm))
 have hlz : ((lb.length : Int) == 0) = false := beq_eq_false_iff_ne.2 (by omega)
 have HLX := Hi (lt_ediv (y := y) (lt_le (lt_val ia.ws ia.val) ia.len))
 have HLR := Hi (lt_emod (x := x) hy (lt_le (lt_val ib.ws ib.val) ib.len))
 have hpb : 0 < val lb := val_pos (isB_top ib.can) (by omega)
 have HPB := Hi hpb
 have HSG := Hi (ediv_signs (val la) (val lb) hpb)
 have HXX : Hid (x = zI true la ∧ y = zI nb lb) := Hi ⟨ia.val.symm, ib.val.symm⟩
 have H0 := Hi h0
 clear hxa hxb hy hpb h0
 go_enter Tryz.func14, Tryz.ntmps14
 go_wp2_with fail
 refine (RIs_iv (ia.below (ba (ba (ba (ba (b0 _) _) _) _) _))).mono ?_
 rintro e w0 ⟨rfl, hb0⟩
 have hba0 : Box2 w0 w.heap.size (.bool true) (.slice A la.length ca) := ((((Box2.new w (.bool true) (.slice A la.length ca)).alloc _).alloc _).alloc _).below hb0
 have hbb0 : Box2 w0 (w.heap.size + 1) (.bool nb) (.slice B lb.length cb) := by
  exact ma879a
 have hbq0 : Box2 w0 (w.heap.size + 1 + 1) (.bool false) (.slice none 0 0) := by
  exact mebbc0
 have hbr0 : Box2 w0 (w.heap.size + 1 + 1 + 1) (.bool false) (.slice none 0 0) := by
  exact mec116
 have hK0 := bt (ba (ba (ba (ba (b0 w) _) _) _) _) hb0
 obtain ⟨y2, y3⟩ := hbb0.cs
 go_wp2_with fail
 refine (RIs_iv (ib.below hK0)).mono ?_
 rintro e w1 ⟨rfl, hb1⟩
 have hba := hba0.below hb1
 have hbb := hbb0.below hb1
 have hbq := hbq0.below hb1
 have hbr := hbr0.below hb1
 have hK := bt hK0 hb1
 clear hba0 hbb0 hbq0 hbr0 hK0 hb0 hb1 y2 y3
 obtain ⟨y0, y1⟩ := hba.cs
 obtain ⟨y2, y3⟩ := hbb.cs
 have hwA := ia.ws.below hK
 have hwB := ib.ws.below hK
 go_wp2_with fail
 refine (Rnative_no (ia.below hK) HXA.out).mono ?_
 exact m79963
open Go.RowKit Go.Shelf
variable {A B : Option Addr} {ca cb : Nat} {l la lb : List Nat} {nb : Bool} {w : World} {x y : Int}
theorem div_sign_q1 (hp : 0 < val lb) (h : val l = val la / val lb + 1) (h0 : val la % val lb ≠ 0) : zI (true != nb) l = zI true la / zI nb lb := by
 have hs := (ediv_signs (val la) (val lb) hp).2.2.2 h0
 cases nb
 ·show -(val l : Int) = -(val la : Int) / (val lb : Int)
  rw [h, hs.1]
 ·show (val l : Int) = -(val la : Int) / -(val lb : Int)
  rw [h, hs.2.2.1]
theorem div_sign_r1 (hp : 0 < val lb) (h : val l = val lb - val la % val lb) (h0 : val la % val lb ≠ 0) : zI false l = zI true la % zI nb lb := by
 have hs := (ediv_signs (val la) (val lb) hp).2.2.2 h0
 cases nb
 ·show (val l : Int) = -(val la : Int) % (val lb : Int)
  rw [h, hs.2.1]
 ·show (val l : Int) = -(val la : Int) % -(val lb : Int)
  rw [h, hs.2.2.2]
theorem m1c5e5 {P : Prop} (h : P := by
 rintro e w2 ⟨rfl, hb2⟩
 replace hba := hba.below hb2
 replace hbb := hbb.below hb2
 replace hbq := hbq.below hb2
 replace hbr := hbr.below hb2
 replace hK := bt hK hb2
 clear y0 y1 y2 y3 hwA hwB
 obtain ⟨w1, hw1⟩ : ∃ v, v = w2 := ⟨_, rfl⟩
 try rw [← hw1] at hb2
 rw [← hw1] at hba hbb hbq hbr hK ⊢
 clear hw1
 obtain ⟨y0, y1⟩ := hba.cs
 obtain ⟨y2, y3⟩ := hbb.cs
 have hwA := ia.ws.below hK
 have hwB := ib.ws.below hK
 clear hb2
 go_wp2_with fail
 refine (RdivWords_any A B ca cb la lb w1 (by omega) (by omega) ia.cap (isB_top ia.can) (isB_top ib.can) (by omega) hwA hwB).mono ?_
 rintro e w2 ⟨A6, c6, l6, A7, c7, l7, rfl, hc6, hc7, hs6, hs7, ht6, ht7, hv6, hv7, hb2⟩
 have hl6 := len_le ht6 hwA.1 (by rw [hv6]; exact Nat.div_le_self _ _)
 have hl7 := len_le ht7 hwB.1 (by rw [hv7]; exact Nat.le_of_lt (Nat.mod_lt _ HPB.out))
 have HV6 := Hi hv6
 have HV7 := Hi hv7
 have hba2 := hba.below hb2
 have hbb2 := hbb.below hb2
 have hbq2 := hbq.below hb2
 have hbr2 := hbr.below hb2
 have hK2 := bt hK hb2
 clear y0 y1 y2 y3 hv6 hv7
 obtain ⟨y0, y1⟩ := hba2.cs
 obtain ⟨y2, y3⟩ := hbb2.cs
 have hl7i : (0 : Int) < (l7.length : Int) := by
  rcases Nat.eq_zero_or_pos l7.length with h | h
  ·exfalso
   have h1 := (val_eq_zero ht7).2 h
   rw [HV7.out] at h1
   exact HNE.out h1
  ·omega
 have hwB2 := hwB.below hb2
 have HL7 : Hid (val l7 ≤ val lb) := Hi (by rw [HV7.out]; exact Nat.le_of_lt (Nat.mod_lt _ HPB.out))
 go_wp2_with fail
 go_region_held3 (fun W => W.cell? ⟨w.heap.size + 1, 1, none⟩ = some (.slice B lb.length cb)) (first | exact y3 | exact z3 | exact v3 | go_keep)
  (first
   | (go_at_call 92; refine (RaddWords_any A6 _ _ c6 1 1 l6 [1] _ rfl rfl (by omega) (by simp) (hs6.below (by repeat (first | exact b0 _ | refine ba ?_ _ | refine bd ?_ _ | refine bw ?_))) (by first | exact one_st _ | exact one_st2 _ (by simp) | exact (one_st _).below (by repeat (first | exact b0 _ | refine ba ?_ _ | refine bd ?_ _ | refine bw ?_)))).mono ?_; rintro e w3 ⟨A8, c8, l8, rfl, hc8, hs8, ht8, hv8, hb3⟩; have hb3 : Below w2.heap.size w2 w3 := bt (by repeat (first | exact b0 _ | refine ba ?_ _ | refine bd ?_ _ | refine bw ?_)) hb3; have hw8 := b0 w3; have HS8 := Hi hs8; have HV8 := Hi hv8; have HL8 := Hi (len_sum ht8 hs6.1 (k := [1]) (by simp) hv8); clear hv8; have z3 := (hbb2.below hb3).cell1)
   | (go_at_call 93; refine (RsubWords_any B A7 _ cb _ c7 lb l7 _ rfl rfl (by omega) hl7 HL7.out (hwB2.below (bt hb3 (by first | exact b0 _ | exact bd (b0 _) _))) ((hs7.below hb3).below (by first | exact b0 _ | exact bd (b0 _) _))).mono ?_; rintro e w4 ⟨A9, c9, l9, rfl, hc9, hs9, ht9, hv9, hb4⟩; have hb38 := bt (bt hw8 (by first | exact b0 _ | exact bd (b0 _) _)) hb4; have hb4 := bt (bt hb3 (by first | exact b0 _ | exact bd (b0 _) _)) hb4; have HV9 := Hi hv9; have HL9 := Hi (len_le ht9 hwB.1 (by rw [hv9]; omega)); clear hv9; have v3 := (hbb2.below hb4).cell1))
 have hba4 := hba2.below hb4
 have hbb4 := hbb2.below hb4
 have hbq4 := hbq2.below hb4
 have hbr4 := hbr2.below hb4
 have hK4 := bt hK2 hb4
 have hs84 := HS8.out.below hb38
 have hl8 := HL8.out
 have hl9 := HL9.out
 rw [show ([1] : List Nat).length = 1 from rfl] at hl8
 clear y0 y1 y2 y3 z3 v3
 obtain ⟨y0, y1⟩ := hba4.cs
 obtain ⟨y2, y3⟩ := hbb4.cs
 go_wp2_with fail
 refine (Rmade_any w4 w4 _ A8 l8.length c8 l8 rfl (by omega) hc8 hs84 (b0 _)).mono ?_
 rintro e w5 ⟨n1, A1, c1, l1, rfl, hc1, hs1, hB1, hz1, hb5⟩
 have HZ1 := Hi hz1
 clear hz1 y0 y1 y2 y3
 go_wp2_with fail
 refine (Rmade_any w5 w5 false A9 l9.length c9 l9 rfl (by omega) hc9 (hs9.below hb5) (b0 _)).mono ?_
 rintro e w6 ⟨n2, A2, c2, l2, rfl, hc2, hs2, hB2, hz2, hb6⟩
 have hzq : zI n1 l1 = x / y := by
  rw [HZ1.out, HXX.out.1, HXX.out.2]
  have g := div_sign_q1 (nb := nb) HPB.out (show val l8 = val la / val lb + 1 by rw [HV8.out, HV6.out]; simp [val]) HNE.out
  revert g
  cases nb <;> exact id
 have hzr : zI n2 l2 = x % y := by
  rw [hz2, HXX.out.1, HXX.out.2]
  exact div_sign_r1 (nb := nb) HPB.out (show val l9 = val lb - val la % val lb by rw [HV9.out, HV7.out]) HNE.out
 have i1 : IV w5 n1 A1 c1 l1 (x / y) := .of hc1 hs1 hB1 hzq HLX.out
 have i2 : IV w6 n2 A2 c2 l2 (x % y) := .of hc2 hs2 hB2 hzr HLR.out
 have hbq5 := (hbq4.below hb5).below hb6
 have hbr5 := (hbr4.below hb5).below hb6
 have HK5 := Hi (bt (bt hK4 hb5) hb6)
 clear hz2 hzq hzr hc1 hs1 hB1 hc2 hs2 hB2
 have HI1 := Hi (i1.below hb6)
 have HI2 := Hi i2
 obtain ⟨p0, p1⟩ := hbq5.cs
 have pf0 := hbq5.free 0
 have pf1 := hbq5.free 1
 obtain ⟨p2, p3⟩ := hbr5.cs
 have pf2 := hbr5.free 0
 have pf3 := hbr5.free 1
 obtain ⟨k0, k1, k2⟩ := hbq5.back (.bool n1) (.slice A1 l1.length c1)
 have sr2 := box2_far hbr5 (q := w.heap.size + 1 + 1) (by omega) (.bool n1) (.slice A1 l1.length c1)
 obtain ⟨p4, p5⟩ := sr2.cs
 have pf4 := sr2.free 0
 have pf5 := sr2.free 1
 obtain ⟨m0, m1, m2⟩ := sr2.back (.bool n2) (.slice A2 l2.length c2)
 go_wp2_with fail
 refine bodyPost_ret (v := .tuple #[.agg #[.bool n1, .slice A1 l1.length c1], .agg #[.bool n2, .slice A2 l2.length c2], .int .i64 0]) (by simp [results, Tryz.results14, go_sem, k0, k2, m0, m2]) rfl ?_
 exact ⟨n1, A1, c1, l1, n2, A2, c2, l2, rfl, (HI1.out.st hbq5 _ _).st sr2 _ _, (HI2.out.st hbq5 _ _).st sr2 _ _, b2 (b2 HK5.out (by omega) _ _) (by omega) _ _⟩) : P := h
theorem m50e72 {P : Prop} (h : P := by
 have := (Box2.new (((w.alloc (.cells #[.bool true, .slice A la.length ca] 24)).alloc (.cells #[.bool nb, .slice B lb.length cb] 24)).alloc (.cells #[.bool false, .slice none 0 0] 24)) (.bool false) (.slice none 0 0)).below hb0
 simpa using this) : P := h
theorem m9c453 {P : Prop} (h : P := by
 rintro e w2 ⟨rfl, hb2⟩
 replace hba := hba.below hb2
 replace hbb := hbb.below hb2
 replace hbq := hbq.below hb2
 replace hbr := hbr.below hb2
 replace hK := bt hK hb2
 clear y0 y1 y2 y3 hwA hwB
 obtain ⟨w1, hw1⟩ : ∃ v, v = w2 := ⟨_, rfl⟩
 try rw [← hw1] at hb2
 rw [← hw1] at hba hbb hbq hbr hK ⊢
 clear hw1
 obtain ⟨y0, y1⟩ := hba.cs
 obtain ⟨y2, y3⟩ := hbb.cs
 have hwA := ia.ws.below hK
 have hwB := ib.ws.below hK
 clear hb2
 go_wp2_with fail
 refine (Rnative_no (ib.below hK) HXB.out).mono ?_
 exact m1c5e5) : P := h
theorem RDiv_w_yn_n (ia : IV w true A ca la x) (ib : IV w nb B cb lb y) (hy : y ≠ 0) (hxa : x.natAbs < 4611686018427387904) (hxb : 4611686018427387904 ≤ y.natAbs) (h0 : val la % val lb ≠ 0) :
  Calls Tryz.prog 14 #[.agg #[.bool true, .slice A la.length ca], .agg #[.bool nb, .slice B lb.length cb]] w (RDIV w (x / y) (x % y)) := by
 have ea := ia.len
 have eb := ib.len
 have HXA := Hi hxa
 have HXB := Hi hxb
 have HVA : Hid (val la = x.natAbs) := Hi (by rw [← ia.val]; unfold zI; split <;> simp)
 have HVB : Hid (val lb = y.natAbs) := Hi (by rw [← ib.val]; unfold zI; split <;> simp)
 have hlb0 : lb.length ≠ 0 := fun h => hy ((by have h1 := ib.val; rw [List.eq_nil_of_length_eq_zero h, zI_nil] at h1; exact h1.symm))
 have hlz : ((lb.length : Int) == 0) = false := beq_eq_false_iff_ne.2 (by omega)
 have HLX := Hi (lt_ediv (y := y) (lt_le (lt_val ia.ws ia.val) ia.len))
 have HLR := Hi (lt_emod (x := x) hy (lt_le (lt_val ib.ws ib.val) ib.len))
 have hpb : 0 < val lb := val_pos (isB_top ib.can) (by omega)
 have HPB := Hi hpb
 have HSG := Hi (ediv_signs (val la) (val lb) hpb)
 have HXX : Hid (x = zI true la ∧ y = zI nb lb) := Hi ⟨ia.val.symm, ib.val.symm⟩
 have HNE := Hi h0
 clear hxa hxb hy hpb h0
 go_enter Tryz.func14, Tryz.ntmps14
 go_wp2_with fail
 refine (RIs_iv (ia.below (ba (ba (ba (ba (b0 _) _) _) _) _))).mono ?_
 rintro e w0 ⟨rfl, hb0⟩
 have hba0 : Box2 w0 w.heap.size (.bool true) (.slice A la.length ca) := ((((Box2.new w (.bool true) (.slice A la.length ca)).alloc _).alloc _).alloc _).below hb0
 have hbb0 : Box2 w0 (w.heap.size + 1) (.bool nb) (.slice B lb.length cb) := by
  exact ma879a
 have hbq0 : Box2 w0 (w.heap.size + 1 + 1) (.bool false) (.slice none 0 0) := by
  exact mebbc0
 have hbr0 : Box2 w0 (w.heap.size + 1 + 1 + 1) (.bool false) (.slice none 0 0) := by
  exact m50e72
 have hK0 := bt (ba (ba (ba (ba (b0 w) _) _) _) _) hb0
 obtain ⟨y2, y3⟩ := hbb0.cs
 go_wp2_with fail
 refine (RIs_iv (ib.below hK0)).mono ?_
 rintro e w1 ⟨rfl, hb1⟩
 have hba := hba0.below hb1
 have hbb := hbb0.below hb1
 have hbq := hbq0.below hb1
 have hbr := hbr0.below hb1
 have hK := bt hK0 hb1
 clear hba0 hbb0 hbq0 hbr0 hK0 hb0 hb1 y2 y3
 obtain ⟨y0, y1⟩ := hba.cs
 obtain ⟨y2, y3⟩ := hbb.cs
 have hwA := ia.ws.below hK
 have hwB := ib.ws.below hK
 go_wp2_with fail
 refine (Rnative_yes (ia.below hK) HXA.out).mono ?_
 exact m9c453
theorem RDiv_w_ny_n (ia : IV w true A ca la x) (ib : IV w nb B cb lb y) (hy : y ≠ 0) (hxa : 4611686018427387904 ≤ x.natAbs) (hxb : y.natAbs < 4611686018427387904) (h0 : val la % val lb ≠ 0) :
  Calls Tryz.prog 14 #[.agg #[.bool true, .slice A la.length ca], .agg #[.bool nb, .slice B lb.length cb]] w (RDIV w (x / y) (x % y)) := by
 have ea := ia.len
 have eb := ib.len
 have HXA := Hi hxa
 have HXB := Hi hxb
 have HVA : Hid (val la = x.natAbs) := Hi (by rw [← ia.val]; unfold zI; split <;> simp)
 have HVB : Hid (val lb = y.natAbs) := Hi (by rw [← ib.val]; unfold zI; split <;> simp)
 have hlb0 : lb.length ≠ 0 := fun h => hy ((by have h1 := ib.val; rw [List.eq_nil_of_length_eq_zero h, zI_nil] at h1; exact h1.symm))
 have hlz : ((lb.length : Int) == 0) = false := beq_eq_false_iff_ne.2 (by omega)
 have HLX := Hi (lt_ediv (y := y) (lt_le (lt_val ia.ws ia.val) ia.len))
 have HLR := Hi (lt_emod (x := x) hy (lt_le (lt_val ib.ws ib.val) ib.len))
 have hpb : 0 < val lb := val_pos (isB_top ib.can) (by omega)
 have HPB := Hi hpb
 have HSG := Hi (ediv_signs (val la) (val lb) hpb)
 have HXX : Hid (x = zI true la ∧ y = zI nb lb) := Hi ⟨ia.val.symm, ib.val.symm⟩
 have HNE := Hi h0
 clear hxa hxb hy hpb h0
 go_enter Tryz.func14, Tryz.ntmps14
 go_wp2_with fail
 refine (RIs_iv (ia.below (ba (ba (ba (ba (b0 _) _) _) _) _))).mono ?_
 rintro e w0 ⟨rfl, hb0⟩
 have hba0 : Box2 w0 w.heap.size (.bool true) (.slice A la.length ca) := ((((Box2.new w (.bool true) (.slice A la.length ca)).alloc _).alloc _).alloc _).below hb0
 have hbb0 : Box2 w0 (w.heap.size + 1) (.bool nb) (.slice B lb.length cb) := by
  exact ma879a
 have hbq0 : Box2 w0 (w.heap.size + 1 + 1) (.bool false) (.slice none 0 0) := by
  exact mebbc0
 have hbr0 : Box2 w0 (w.heap.size + 1 + 1 + 1) (.bool false) (.slice none 0 0) := by
  exact m50e72
 have hK0 := bt (ba (ba (ba (ba (b0 w) _) _) _) _) hb0
 obtain ⟨y2, y3⟩ := hbb0.cs
 go_wp2_with fail
 refine (RIs_iv (ib.below hK0)).mono ?_
 rintro e w1 ⟨rfl, hb1⟩
 have hba := hba0.below hb1
 have hbb := hbb0.below hb1
 have hbq := hbq0.below hb1
 have hbr := hbr0.below hb1
 have hK := bt hK0 hb1
 clear hba0 hbb0 hbq0 hbr0 hK0 hb0 hb1 y2 y3
 obtain ⟨y0, y1⟩ := hba.cs
 obtain ⟨y2, y3⟩ := hbb.cs
 have hwA := ia.ws.below hK
 have hwB := ib.ws.below hK
 go_wp2_with fail
 refine (Rnative_no (ia.below hK) HXA.out).mono ?_
 rintro e w2 ⟨rfl, hb2⟩
 replace hba := hba.below hb2
 replace hbb := hbb.below hb2
 replace hbq := hbq.below hb2
 replace hbr := hbr.below hb2
 replace hK := bt hK hb2
 clear y0 y1 y2 y3 hwA hwB
 obtain ⟨w1, hw1⟩ : ∃ v, v = w2 := ⟨_, rfl⟩
 try rw [← hw1] at hb2
 rw [← hw1] at hba hbb hbq hbr hK ⊢
 clear hw1
 obtain ⟨y0, y1⟩ := hba.cs
 obtain ⟨y2, y3⟩ := hbb.cs
 have hwA := ia.ws.below hK
 have hwB := ib.ws.below hK
 clear hb2
 go_wp2_with fail
 refine (Rnative_yes (ib.below hK) HXB.out).mono ?_
 exact m1c5e5
theorem RDiv_w_nn_n (ia : IV w true A ca la x) (ib : IV w nb B cb lb y) (hy : y ≠ 0) (hxa : 4611686018427387904 ≤ x.natAbs) (hxb : 4611686018427387904 ≤ y.natAbs) (h0 : val la % val lb ≠ 0) :
  Calls Tryz.prog 14 #[.agg #[.bool true, .slice A la.length ca], .agg #[.bool nb, .slice B lb.length cb]] w (RDIV w (x / y) (x % y)) := by
 have ea := ia.len
 have eb := ib.len
 have HXA := Hi hxa
 have HXB := Hi hxb
 have HVA : Hid (val la = x.natAbs) := Hi (by rw [← ia.val]; unfold zI; split <;> simp)
 have HVB : Hid (val lb = y.natAbs) := Hi (by rw [← ib.val]; unfold zI; split <;> simp)
 have hlb0 : lb.length ≠ 0 := fun h => hy ((by have h1 := ib.val; rw [List.eq_nil_of_length_eq_zero h, zI_nil] at h1; exact h1.symm))
 have hlz : ((lb.length : Int) == 0) = false := beq_eq_false_iff_ne.2 (by omega)
 have HLX := Hi (lt_ediv (y := y) (lt_le (lt_val ia.ws ia.val) ia.len))
 have HLR := Hi (lt_emod (x := x) hy (lt_le (lt_val ib.ws ib.val) ib.len))
 have hpb : 0 < val lb := val_pos (isB_top ib.can) (by omega)
 have HPB := Hi hpb
 have HSG := Hi (ediv_signs (val la) (val lb) hpb)
 have HXX : Hid (x = zI true la ∧ y = zI nb lb) := Hi ⟨ia.val.symm, ib.val.symm⟩
 have HNE := Hi h0
 clear hxa hxb hy hpb h0
 go_enter Tryz.func14, Tryz.ntmps14
 go_wp2_with fail
 refine (RIs_iv (ia.below (ba (ba (ba (ba (b0 _) _) _) _) _))).mono ?_
 rintro e w0 ⟨rfl, hb0⟩
 have hba0 : Box2 w0 w.heap.size (.bool true) (.slice A la.length ca) := ((((Box2.new w (.bool true) (.slice A la.length ca)).alloc _).alloc _).alloc _).below hb0
 have hbb0 : Box2 w0 (w.heap.size + 1) (.bool nb) (.slice B lb.length cb) := by
  exact ma879a
 have hbq0 : Box2 w0 (w.heap.size + 1 + 1) (.bool false) (.slice none 0 0) := by
  exact mebbc0
 have hbr0 : Box2 w0 (w.heap.size + 1 + 1 + 1) (.bool false) (.slice none 0 0) := by
  exact m50e72
 have hK0 := bt (ba (ba (ba (ba (b0 w) _) _) _) _) hb0
 obtain ⟨y2, y3⟩ := hbb0.cs
 go_wp2_with fail
 refine (RIs_iv (ib.below hK0)).mono ?_
 rintro e w1 ⟨rfl, hb1⟩
 have hba := hba0.below hb1
 have hbb := hbb0.below hb1
 have hbq := hbq0.below hb1
 have hbr := hbr0.below hb1
 have hK := bt hK0 hb1
 clear hba0 hbb0 hbq0 hbr0 hK0 hb0 hb1 y2 y3
 obtain ⟨y0, y1⟩ := hba.cs
 obtain ⟨y2, y3⟩ := hbb.cs
 have hwA := ia.ws.below hK
 have hwB := ib.ws.below hK
 go_wp2_with fail
 refine (Rnative_no (ia.below hK) HXA.out).mono ?_
 exact m9c453
theorem RDiv_iv {na nb : Bool} (ia : IV w na A ca la x) (ib : IV w nb B cb lb y) (hy : y ≠ 0) :
  Calls Tryz.prog 14 #[.agg #[.bool na, .slice A la.length ca], .agg #[.bool nb, .slice B lb.length cb]] w (RDIV w (x / y) (x % y)) := by
 rcases Nat.lt_or_ge x.natAbs 4611686018427387904 with hxa | hxa <;> rcases Nat.lt_or_ge y.natAbs 4611686018427387904 with hxb | hxb
 ·rcases Int.lt_or_le (x.tmod y) 0 with ht | ht
  ·rcases Int.lt_or_gt_of_ne hy with hp | hp
   ·exact RDiv_negn ia ib hy hxa hxb ht hp
   ·exact RDiv_negp ia ib hy hxa hxb ht hp
  ·exact RDiv_pos ia ib hy hxa hxb ht
 ·cases na
  ·exact RDiv_w_yn_f ia ib hy hxa hxb
  ·by_cases h0 : val la % val lb = 0
   ·exact RDiv_w_yn_t ia ib hy hxa hxb h0
   ·exact RDiv_w_yn_n ia ib hy hxa hxb h0
 ·cases na
  ·exact RDiv_w_ny_f ia ib hy hxa hxb
  ·by_cases h0 : val la % val lb = 0
   ·exact RDiv_w_ny_t ia ib hy hxa hxb h0
   ·exact RDiv_w_ny_n ia ib hy hxa hxb h0
 ·cases na
  ·exact RDiv_w_nn_f ia ib hy hxa hxb
  ·by_cases h0 : val la % val lb = 0
   ·exact RDiv_w_nn_t ia ib hy hxa hxb h0
   ·exact RDiv_w_nn_n ia ib hy hxa hxb h0
open Go.RowKit Go.Shelf
variable {A B : Option Addr} {ca cb : Nat} {la lb : List Nat} {na nb : Bool} {w : World} {x y : Int}
theorem m81b13 {P : Prop} (h : P := by
 rw [hw]
 have := Box2.new (w1.alloc (.cells #[.bool n1, .slice A1 l1.length c1] 24)) (.bool n2) (.slice A2 l2.length c2)
 rwa [World.size_alloc] at this) : P := h
theorem RQuo_iv (ia : IV w na A ca la x) (ib : IV w nb B cb lb y) (hy : y ≠ 0) :
  Calls Tryz.prog 97 #[.agg #[.bool na, .slice A la.length ca], .agg #[.bool nb, .slice B lb.length cb]] w (RIV w (x / y)) := by
 have HY := Hi hy
 clear hy
 go_enter Tryz.func97, Tryz.ntmps97
 go_wp2_with fail
 refine (RDiv_iv (ia.below (ba (ba (ba (b0 _) _) _) _)) (ib.below (ba (ba (ba (b0 _) _) _) _)) HY.out).mono ?_
 rintro e w1 ⟨n1, A1, c1, l1, n2, A2, c2, l2, rfl, i1, i2, hb⟩
 have hbx := (Box2.new ((w.alloc (.cells #[.bool na, .slice A la.length ca] 24)).alloc (.cells #[.bool nb, .slice B lb.length cb] 24)) (.bool false) (.slice none 0 0)).below hb
 rw [World.size_alloc, World.size_alloc] at hbx
 have hK := bt (ba (ba (ba (b0 w) _) _) _) hb
 have HI1 := Hi i1
 have HI2 := Hi i2
 clear hb i1 i2
 go_upto_region 2 with fail
 obtain ⟨w2, hw⟩ : ∃ W, W = (w1.alloc (.cells #[.bool n1, .slice A1 l1.length c1] 24)).alloc (.cells #[.bool n2, .slice A2 l2.length c2] 24) := ⟨_, rfl⟩
 have X1 : Box2 w2 w1.heap.size (.bool n1) (.slice A1 l1.length c1) := by rw [hw]; exact (Box2.new _ _ _).alloc _
 have X2 : Box2 w2 (w1.heap.size + 1) (.bool n2) (.slice A2 l2.length c2) := by
  exact m81b13
 have hb2 : Below w1.heap.size w1 w2 := by rw [hw]; exact ba (ba (b0 _) _) _
 rw [← hw]
 clear hw
 have bx := hbx.below hb2
 obtain ⟨q0, q1⟩ := X1.cs
 obtain ⟨q2, q3⟩ := X2.cs
 obtain ⟨x0, x1⟩ := bx.cs
 have f0 := bx.free 0
 have f1 := bx.free 1
 obtain ⟨k0, k1, k2⟩ := bx.back (.bool n1) (.slice A1 l1.length c1)
 go_wp2_with fail
 refine bodyPost_ret (v := .agg #[.bool n1, .slice A1 l1.length c1]) (by simp [results, Tryz.results97, go_sem, k0, k2]) rfl ?_
 exact riv_store (bt hK hb2) (by omega) bx (HI1.out.below hb2)
theorem RMod_iv (ia : IV w na A ca la x) (ib : IV w nb B cb lb y) (hy : y ≠ 0) :
  Calls Tryz.prog 96 #[.agg #[.bool na, .slice A la.length ca], .agg #[.bool nb, .slice B lb.length cb]] w (RIV w (x % y)) := by
 have HY := Hi hy
 clear hy
 go_enter Tryz.func96, Tryz.ntmps96
 go_wp2_with fail
 refine (RDiv_iv (ia.below (ba (ba (ba (b0 _) _) _) _)) (ib.below (ba (ba (ba (b0 _) _) _) _)) HY.out).mono ?_
 rintro e w1 ⟨n1, A1, c1, l1, n2, A2, c2, l2, rfl, i1, i2, hb⟩
 have hbx := (Box2.new ((w.alloc (.cells #[.bool na, .slice A la.length ca] 24)).alloc (.cells #[.bool nb, .slice B lb.length cb] 24)) (.bool false) (.slice none 0 0)).below hb
 rw [World.size_alloc, World.size_alloc] at hbx
 have hK := bt (ba (ba (ba (b0 w) _) _) _) hb
 have HI1 := Hi i1
 have HI2 := Hi i2
 clear hb i1 i2
 go_upto_region 2 with fail
 obtain ⟨w2, hw⟩ : ∃ W, W = (w1.alloc (.cells #[.bool n1, .slice A1 l1.length c1] 24)).alloc (.cells #[.bool n2, .slice A2 l2.length c2] 24) := ⟨_, rfl⟩
 have X1 : Box2 w2 w1.heap.size (.bool n1) (.slice A1 l1.length c1) := by rw [hw]; exact (Box2.new _ _ _).alloc _
 have X2 : Box2 w2 (w1.heap.size + 1) (.bool n2) (.slice A2 l2.length c2) := by
  exact m81b13
 have hb2 : Below w1.heap.size w1 w2 := by rw [hw]; exact ba (ba (b0 _) _) _
 rw [← hw]
 clear hw
 have bx := hbx.below hb2
 obtain ⟨q0, q1⟩ := X1.cs
 obtain ⟨q2, q3⟩ := X2.cs
 obtain ⟨x0, x1⟩ := bx.cs
 have f0 := bx.free 0
 have f1 := bx.free 1
 obtain ⟨k0, k1, k2⟩ := bx.back (.bool n2) (.slice A2 l2.length c2)
 go_wp2_with fail
 refine bodyPost_ret (v := .agg #[.bool n2, .slice A2 l2.length c2]) (by simp [results, Tryz.results96, go_sem, k0, k2]) rfl ?_
 exact riv_store (bt hK hb2) (by omega) bx (HI2.out.below hb2)
open Go.RowKit Go.Shelf
variable {A : Option Addr} {W : World} {q : Nat}
theorem ws_uniq {l k : List Nat} (h : WS W A l) (h2 : WS W A k) (hl : l.length = k.length) : l = k := by
 refine list_eq_gd hl fun j hj => ?_
 obtain ⟨b, off, e, _, hc⟩ := h.at_ (by omega)
 obtain ⟨b', off', e', _, hc'⟩ := h2.at_ (by omega)
 rw [e] at e'
 injection e' with e'
 injection e' with e1 e2
 subst e1 e2
 have h3 := (hc j hj).symm.trans (hc' j (by omega))
 injection h3 with h3
 injection h3 with _ h3
 omega
theorem box_uniq {n n' : Bool} {A A' : Option Addr} {c c' : Nat} {l l' : List Nat} {z z' : Int} (b : Box2 W q (.bool n) (.slice A l.length c)) (b' : Box2 W q (.bool n') (.slice A' l'.length c')) (i : IV W n A c l z) (i' : IV W n' A' c' l' z') : z = z' := by
 have e0 := b.cell0.symm.trans b'.cell0
 have e1 := b.cell1.symm.trans b'.cell1
 injection e0 with e0
 injection e0 with e0
 injection e1 with e1
 injection e1 with e1 e2 e3
 subst e0 e1
 obtain rfl := ws_uniq i.ws i'.ws e2
 exact i.val.symm.trans i'.val
theorem PwB.uniq {w W : World} {p q : Nat} {x y x' y' : Int} (h : PwB w p q x y W) (h' : PwB w p q x' y' W) : y = y' := by
 obtain ⟨n1, A1, c1, l1, n2, A2, c2, l2, bp, bq, i1, i2, _⟩ := h
 obtain ⟨m1, B1, d1, k1, m2, B2, d2, k2, bp', bq', j1, j2, _⟩ := h'
 exact box_uniq bq bq' i2 j2
theorem PwB.meas (w : World) (p q : Nat) : ∃ mz : World → Nat, ∀ W x y, PwB w p q x y W → mz W = y.natAbs := by
 classical
 refine ⟨fun W => if h : ∃ y, ∃ x, PwB w p q x y W then (Classical.choose h).natAbs else 0, fun W x y h => ?_⟩
 have hex : ∃ y, ∃ x, PwB w p q x y W := ⟨y, x, h⟩
 obtain ⟨x', hx'⟩ := Classical.choose_spec hex
 show (if h : ∃ y, ∃ x, PwB w p q x y W then (Classical.choose h).natAbs else 0) = _
 rw [dif_pos hex, hx'.uniq h]
open Go.RowKit Go.Shelf
variable {x y : Int}
theorem gcd_mod' (hx : 0 ≤ x) (hy : 0 ≤ y) : Nat.gcd y.natAbs (x % y).natAbs = Nat.gcd x.natAbs y.natAbs := by
 obtain ⟨a, rfl⟩ := Int.eq_ofNat_of_zero_le hx
 obtain ⟨b, rfl⟩ := Int.eq_ofNat_of_zero_le hy
 have e : ((a : Int) % (b : Int)).natAbs = a % b := by rw [← Int.natCast_emod, Int.natAbs_natCast]
 rw [e, Int.natAbs_natCast, Int.natAbs_natCast, Nat.gcd_comm a b, Nat.gcd_rec b a, Nat.gcd_comm]
theorem m2bace {P : Prop} (h : P := by
 rintro e w3 ⟨rfl, hb3⟩
 have HB23 := Hi (bt hb2 hb3)
 have p0 := (HBP.out.below HB23.out).cell0
 have p1 := (HBP.out.below HB23.out).cell1
 have q0 := (HBQ.out.below HB23.out).cell0
 have q1 := (HBQ.out.below HB23.out).cell1
 clear r0 r1 hb2 hb3
 go_wp2_with fail
 go_region_law (go_simp; go_at_call 96; refine (RMod_iv ((HI1.out.below HB23.out).below (by repeat (first | exact b0 _ | apply bw | apply bd))) ((HI2.out.below HB23.out).below (by repeat (first | exact b0 _ | apply bw | apply bd))) HYE.out).mono ?_; rintro e w5 ⟨n5, A5, c5, l5, rfl, i5, hb5⟩; have hb6 := bt (show Below w3.heap.size w3 _ from by repeat (first | exact b0 _ | apply bw | apply bd)) hb5; have hp5 := (HBP.out.below HB23.out).below hb6; have hq5 := (HBQ.out.below HB23.out).below hb6; have s0 := hp5.cell0; have s1 := hp5.cell1; have s2 := hp5.free 0; have s3 := hp5.free 1; have t0 := hq5.cell0; have t1 := hq5.cell1; have t2 := hq5.free 0; have t3 := hq5.free 1)
 all_goals
  go_simp
  have hw35 := bt HB23.out hb6
  have hPW := (hP.out.set_p hw35 (HI2.out.below hw35)).set_q (b0 _) (i5.two hp5 (.bool n2) (.slice A2 l2.length c2))
  have HPW := Hi hPW
  clear hPW s0 s1 s2 s3 t0 t1 t2 t3
  go_roundw
  case rel =>
   repeat apply Exists.intro
   exact ⟨⟨y', x' % y', hy0, Int.emod_nonneg _ HYE.out, Hi ⟨hG.out.2.1, lt_emod HYE.out hG.out.2.1, by have h := hG.out.2.2; rwa [← gcd_mod' hx0 hy0] at h⟩, HPW⟩, rfl⟩
  case measure =>
   have h1 := HMZ.out _ _ _ HPW.out
   have h2 := HMZ.out _ _ _ hP.out
   rw [h1, h2]
   have h3 := Int.emod_nonneg x' HYE.out
   have h4 := Int.emod_lt x' HYE.out
   omega) : P := h
theorem m65b8e {P : Prop} (h : P := by
 rintro e w2 ⟨rfl, hb2⟩
 have r0 := (HBQ.out.below hb2).cell0
 have r1 := (HBQ.out.below hb2).cell1
 clear p0 p1 q0 q1
 go_wp2_with fail
 refine (Rnative_no (HI2.out.below hb2) HN.out.2).mono ?_
 exact m2bace) : P := h
theorem RGcd_iv {w : World} {na nb : Bool} {A B : Option Addr} {ca cb : Nat} {la lb : List Nat} {x y z : Int} (ia : IV w na A ca la x) (ib : IV w nb B cb lb y) (hz : ((Nat.gcd x.natAbs y.natAbs : Nat) : Int) = z) (hlt : Lt 2100 z) :
  Calls Tryz.prog 25 #[.agg #[.bool na, .slice A la.length ca], .agg #[.bool nb, .slice B lb.length cb]] w (RIV w z) := by
 have ea := ia.len
 have eb := ib.len
 have HLa : Hid (Lt 2100 (x.natAbs : Int)) := Hi (by have := lt_le (lt_val ia.ws ia.val) ia.len; unfold Lt at *; simpa using this)
 have HLb : Hid (Lt 2100 (y.natAbs : Int)) := Hi (by have := lt_le (lt_val ib.ws ib.val) ib.len; unfold Lt at *; simpa using this)
 go_enter Tryz.func25, Tryz.ntmps25
 go_wp2_with fail
 refine (RIs_iv (ia.below (ba (ba (ba (b0 _) _) _) _))).mono ?_
 rintro e w0 ⟨rfl, hb0⟩
 have hbx0 := (Box2.new ((w.alloc (.cells #[.bool na, .slice A la.length ca] 24)).alloc (.cells #[.bool nb, .slice B lb.length cb] 24)) (.bool false) (.slice none 0 0)).below hb0
 rw [World.size_alloc, World.size_alloc] at hbx0
 have hby0 := (((Box2.new w (.bool na) (.slice A la.length ca)).alloc (.cells #[.bool nb, .slice B lb.length cb] 24)).alloc (.cells #[.bool false, .slice none 0 0] 24)).below hb0
 have hbz0 := ((Box2.new (w.alloc (.cells #[.bool na, .slice A la.length ca] 24)) (.bool nb) (.slice B lb.length cb)).alloc (.cells #[.bool false, .slice none 0 0] 24)).below hb0
 rw [World.size_alloc] at hbz0
 have hK0 := bt (ba (ba (ba (b0 w) _) _) _) hb0
 obtain ⟨y2, y3⟩ := hbz0.cs
 go_wp2_with fail
 refine (RIs_iv (ib.below hK0)).mono ?_
 rintro e w1 ⟨rfl, hb1⟩
 have hbx := hbx0.below hb1
 have hby := hby0.below hb1
 have hbz := hbz0.below hb1
 have hK := bt hK0 hb1
 clear hbx0 hby0 hbz0 hK0 hb0 hb1 y2 y3
 obtain ⟨y0, y1⟩ := hby.cs
 obtain ⟨y2, y3⟩ := hbz.cs
 have hwA := ia.ws.below hK
 have hwB := ib.ws.below hK
 have tokg : True := trivial
 have HBX := Hi hbx
 have HBY := Hi hby
 have HBZ := Hi hbz
 have hxs := hbx.lt
 clear hbx hby hbz hwA hwB
 go_upto_region 3 with fail
 go_cut [5, 6] (fun s t wx => PwAt w1 (x.natAbs : Int) (y.natAbs : Int) s t wx)
 case first =>
  as_aux_lemma =>
  have S5 : ∀ W, Below w1.heap.size w1 W → W.cell? ⟨w.heap.size, 0, none⟩ = some (.bool na) ∧ W.cell? ⟨w.heap.size, 1, none⟩ = some (.slice A la.length ca) ∧ W.cell? ⟨w.heap.size + 1, 0, none⟩ = some (.bool nb) ∧ W.cell? ⟨w.heap.size + 1, 1, none⟩ = some (.slice B lb.length cb) := fun W hb => ⟨cell_below (HBY.out.cell0) hb, cell_below (HBY.out.cell1) hb, cell_below (HBZ.out.cell0) hb, cell_below (HBZ.out.cell1) hb⟩
  have HS5 := Hi S5
  clear S5
  go_region_held3 (fun W => W.cell? ⟨w.heap.size, 0, none⟩ = some (.bool na) ∧ W.cell? ⟨w.heap.size, 1, none⟩ = some (.slice A la.length ca) ∧ W.cell? ⟨w.heap.size + 1, 0, none⟩ = some (.bool nb) ∧ W.cell? ⟨w.heap.size + 1, 1, none⟩ = some (.slice B lb.length cb))
   ((refine HS5.out _ ?_; (repeat (first | assumption | exact b0 _ | apply ba | apply bd | apply bw | (refine bs ?_ (by first | exact Nat.le_refl _ | (dsimp only; omega) | omega) _)))))
   (first
   | (go_at_call 62; have _t := tokg; refine (RAbs_iv (ia.below (bt hK (by repeat (first | assumption | exact b0 _ | apply ba | apply bd | apply bw)))) rfl HLa.out).mono ?_; clear tokg _t; rintro e w6 ⟨n6, A6, c6, l6, rfl, i6, hb6⟩; obtain ⟨hcc6, hff6⟩ := bcell hb6; have hw6 := i6.ws; have hb16 : Below w1.heap.size w1 w6 := bt (by repeat (first | assumption | exact b0 _ | apply ba | apply bd | apply bw)) hb6; have sz6 := hb16.size; have sy6 := hb6.size; (try simp at sy6); (try have sw6 : w1.heap.size < w6.heap.size := by omega); (try have sv6 : w1.heap.size + 1 < w6.heap.size := by omega))
   | (go_at_call 62; refine (RAbs_iv (ib.below (bt hK (by repeat (first | assumption | exact b0 _ | apply ba | apply bd | apply bw)))) rfl HLb.out).mono ?_; rintro e w7 ⟨n7, A7, c7, l7, rfl, i7, hb7⟩; obtain ⟨hcc7, hff7⟩ := bcell hb7; have hw7 := i7.ws; have hb17 : Below w1.heap.size w1 w7 := bt (by repeat (first | assumption | exact b0 _ | apply ba | apply bd | apply bw)) hb7; have sz7 := hb17.size; have sy7 := hb7.size; (try simp at sy7); (try have sw7 : w1.heap.size < w7.heap.size := by omega); (try have sv7 : w1.heap.size + 1 < w7.heap.size := by omega); (try have su7 : w6.heap.size < w7.heap.size := by omega); (try have st7 : w6.heap.size + 1 < w7.heap.size := by omega); have hw67 := (hw6.below (by repeat (first | assumption | exact b0 _ | apply ba | apply bd | apply bw))).below hb7))
  all_goals (go_wp2_with fail; go_meet)
  all_goals
   have g6 := fun (p : Nat) (h : Box2 w7 p (.bool false) (.slice none 0 0)) => ws_off_box h (by simp) hw67
   have g7 := fun (p : Nat) (h : Box2 w7 p (.bool false) (.slice none 0 0)) => ws_off_box h (by simp) hw7
   have G6 := fun (p : Nat) (h : w7.heap.size ≤ p) => hw67.off h
   have G7 := fun (p : Nat) (h : w7.heap.size ≤ p) => hw7.off h
   refine ⟨_, _, rfl, rfl, n6, A6, c6, l6, n7, A7, c7, l7, ?_, ?_, ⟨i6.cap, ?_, i6.can, i6.val, i6.len⟩, ⟨i7.cap, ?_, i7.can, i7.val, i7.len⟩, ?_, ?_, ?_, ?_⟩
   ·(repeat (first
     | with_reducible exact hw67
     | with_reducible exact hw7
     | (with_reducible refine WS.below ?_ (ba (b0 _) _))
     | (with_reducible refine WS.two ?_ ?_ _ _)
     | (focus ((with_reducible refine Box2.new' ?_); (simp; done)))
     | (with_reducible refine Box2.alloc ?_ _)
     | (with_reducible refine Box2.stored' ?_ _ _)
     | (with_reducible refine Box2.far ?_ ?_ _ _)
     | (with_reducible refine Box2.below ?_ hb7)
     | (with_reducible refine Box2.below ?_ hb6)
     | exact G6 _ (by first | exact Nat.le_refl _ | omega)
     | exact G7 _ (by first | exact Nat.le_refl _ | omega)
     | (with_reducible refine g6 _ ?_)
     | (with_reducible refine g7 _ ?_)
     | omega
     | (focus (simp; done))
     | (with_reducible refine Box2.drew' ?_)))
   ·(repeat (first
     | with_reducible exact hw67
     | with_reducible exact hw7
     | (with_reducible refine WS.below ?_ (ba (b0 _) _))
     | (with_reducible refine WS.two ?_ ?_ _ _)
     | (focus ((with_reducible refine Box2.new' ?_); (simp; done)))
     | (with_reducible refine Box2.alloc ?_ _)
     | (with_reducible refine Box2.stored' ?_ _ _)
     | (with_reducible refine Box2.far ?_ ?_ _ _)
     | (with_reducible refine Box2.below ?_ hb7)
     | (with_reducible refine Box2.below ?_ hb6)
     | exact G6 _ (by first | exact Nat.le_refl _ | omega)
     | exact G7 _ (by first | exact Nat.le_refl _ | omega)
     | (with_reducible refine g6 _ ?_)
     | (with_reducible refine g7 _ ?_)
     | omega
     | (focus (simp; done))
     | (with_reducible refine Box2.drew' ?_)))
   ·(repeat (first
     | with_reducible exact hw67
     | with_reducible exact hw7
     | (with_reducible refine WS.below ?_ (ba (b0 _) _))
     | (with_reducible refine WS.two ?_ ?_ _ _)
     | (focus ((with_reducible refine Box2.new' ?_); (simp; done)))
     | (with_reducible refine Box2.alloc ?_ _)
     | (with_reducible refine Box2.stored' ?_ _ _)
     | (with_reducible refine Box2.far ?_ ?_ _ _)
     | (with_reducible refine Box2.below ?_ hb7)
     | (with_reducible refine Box2.below ?_ hb6)
     | exact G6 _ (by first | exact Nat.le_refl _ | omega)
     | exact G7 _ (by first | exact Nat.le_refl _ | omega)
     | (with_reducible refine g6 _ ?_)
     | (with_reducible refine g7 _ ?_)
     | omega
     | (focus (simp; done))
     | (with_reducible refine Box2.drew' ?_)))
   ·(repeat (first
     | with_reducible exact hw67
     | with_reducible exact hw7
     | (with_reducible refine WS.below ?_ (ba (b0 _) _))
     | (with_reducible refine WS.two ?_ ?_ _ _)
     | (focus ((with_reducible refine Box2.new' ?_); (simp; done)))
     | (with_reducible refine Box2.alloc ?_ _)
     | (with_reducible refine Box2.stored' ?_ _ _)
     | (with_reducible refine Box2.far ?_ ?_ _ _)
     | (with_reducible refine Box2.below ?_ hb7)
     | (with_reducible refine Box2.below ?_ hb6)
     | exact G6 _ (by first | exact Nat.le_refl _ | omega)
     | exact G7 _ (by first | exact Nat.le_refl _ | omega)
     | (with_reducible refine g6 _ ?_)
     | (with_reducible refine g7 _ ?_)
     | omega
     | (focus (simp; done))
     | (with_reducible refine Box2.drew' ?_)))
   ·omega
   ·omega
   ·omega
   ·repeat (first | exact hb17 | (with_reducible refine ba ?_ _) | (with_reducible refine bs ?_ ?_ _))
    all_goals (first | exact Nat.le_refl _ | (dsimp only; omega) | omega)
 case rest =>
 obtain ⟨p, q, rfl, rfl, hpw⟩ := hcut
 obtain ⟨w8, hw8⟩ : ∃ v, v = wc := ⟨_, rfl⟩
 rw [← hw8] at hpw ⊢
 clear hw8 wc
 have HPW8 := Hi hpw
 have hxs1 := HBX.out.lt
 have HBX8 := Hi (fun W (h : Below w1.heap.size w1 W) => HBX.out.below h)
 obtain ⟨mz, hmz⟩ := PwB.meas w1 p q
 have HMZ := Hi hmz
 have HZ := Hi hz
 have HLT := Hi hlt
 have HK := Hi hK
 clear hpw hmz y0 y1 y2 y3 hz hlt hK tokg
 go_wp2_with fail
 go_loopw [] (fun wr => ∃ (x' y' : Int), 0 ≤ x' ∧ 0 ≤ y' ∧ Hid (Lt 2100 x' ∧ Lt 2100 y' ∧ ((Nat.gcd x'.natAbs y'.natAbs : Nat) : Int) = z) ∧ Hid (PwB w1 p q x' y' wr)) (fun wr => mz wr)
 case atStart => exact ⟨_, _, by omega, by omega, Hi ⟨HLa.out, HLb.out, by simpa using HZ.out⟩, HPW8⟩
 case round =>
  clear HPW8
  obtain ⟨x', y', hx0, hy0, hG, hP⟩ := hrel
  obtain ⟨n1, A1, c1, l1, n2, A2, c2, l2, bp, bq, i1, i2, hne, hp, hq, hbl⟩ := hP.out
  obtain ⟨p0, p1⟩ := bp.cs
  obtain ⟨q0, q1⟩ := bq.cs
  have hzl : l2.length = 0 ↔ y' = 0 := by rw [← zI_zero i2.can, i2.val]
  have hxl := i1.len
  have hyl := i2.len
  by_cases hye : y' = 0
  ·have hl0 : ¬ (0 : Int) < (l2.length : Int) := by have := hzl.2 hye; omega
   have bx := HBX8.out _ hbl
   obtain ⟨x0, x1⟩ := bx.cs
   have f0 := bx.free 0
   have f1 := bx.free 1
   obtain ⟨k0, k1, k2⟩ := bx.back (.bool n1) (.slice A1 l1.length c1)
   have hxz : x' = z := by
    have := hG.out.2.2
    rw [hye, Int.natAbs_zero, Nat.gcd_zero_right] at this
    omega
   rw [hxz] at i1
   have HI1 := Hi i1
   have HBX9 := Hi bx
   have HBL := Hi (bt HK.out hbl)
   clear hxz hzl hye i1 i2 bp bq bx hbl
   go_wp2_with fail
   refine bodyPost_ret (v := .agg #[.bool n1, .slice A1 l1.length c1]) (by simp [results, Tryz.results25, go_sem, k0, k2]) rfl ?_
   exact riv_store HBL.out (by omega) HBX9.out HI1.out
  ·have hl0 : (0 : Int) < (l2.length : Int) := by
    rcases Nat.eq_zero_or_pos l2.length with h | h
    ·exact absurd (hzl.1 h) hye
    ·omega
   by_cases hnat : x'.natAbs < 4611686018427387904 ∧ y'.natAbs < 4611686018427387904
   ·have HN := Hi hnat
    have HYE := Hi hye
    have HI1 := Hi i1
    have HI2 := Hi i2
    have HBP := Hi bp
    have HBQ := Hi bq
    have HBL := Hi hbl
    clear hnat hye hzl i1 i2 bp bq hbl
    go_wp2_with fail
    refine (Rnative_yes HI1.out HN.out.1).mono ?_
    rintro e w2 ⟨rfl, hb2⟩
    have r0 := (HBQ.out.below hb2).cell0
    have r1 := (HBQ.out.below hb2).cell1
    clear p0 p1 q0 q1
    go_wp2_with fail
    refine (Rnative_yes (HI2.out.below hb2) HN.out.2).mono ?_
    rintro e w3 ⟨rfl, hb3⟩
    go_wp2_with fail
    have HB23 := Hi (bt hb2 hb3)
    have HL3 := Hi (bt HBL.out (bt hb2 hb3))
    have hbd : x'.natAbs < 4611686018427387904 ∧ y'.natAbs < 4611686018427387904 := HN.out
    obtain ⟨m0, hm0⟩ : ∃ m0 : Nat, x' = (m0 : Int) := ⟨x'.toNat, by omega⟩
    obtain ⟨n0, hn0⟩ : ∃ n0 : Nat, y' = (n0 : Int) := ⟨y'.toNat, by omega⟩
    have hg0 : Hid (((Nat.gcd m0 n0 : Nat) : Int) = z) := Hi (by
     have := hG.out.2.2
     rwa [hm0, hn0, Int.natAbs_natCast, Int.natAbs_natCast] at this)
    have hm1 : m0 < 4611686018427387904 := by omega
    have hn1 : n0 < 4611686018427387904 := by omega
    clear hb2 hb3 r0 r1 hx0 hy0 hbd
    go_loopw [7, 9] (fun mv nv w4 => ∃ m n : Nat, mv = .int .i64 (m : Int) ∧ nv = .int .i64 (n : Int) ∧ m < 4611686018427387904 ∧ n < 4611686018427387904 ∧ Hid (((Nat.gcd m n : Nat) : Int) = z) ∧ Hid (Below w1.heap.size w1 w4)) (fun _ nv _ => (intOf nv).toNat)
    case atStart => exact ⟨m0, n0, by rw [hm0], by rw [hn0], hm1, hn1, hg0, HL3⟩
    case round =>
     clear hm0 hn0 hm1 hn1 hg0
     obtain ⟨m, n, rfl, rfl, hm, hn, hgg, hB4⟩ := hrel
     by_cases hnz : n = 0
     ·subst hnz
      have hmz : (m : Int) = z := by have := hgg.out; rwa [Nat.gcd_zero_right] at this
      clear hgg
      have hzb : -9223372036854775808 ≤ z ∧ z ≤ 9223372036854775807 := by omega
      rw [hmz] at *
      have bx := HBX8.out _ hB4.out
      obtain ⟨x0, x1⟩ := bx.cs
      have f0 := bx.free 0
      have f1 := bx.free 1
      have HBX9 := Hi bx
      clear bx
      go_wp2_with fail
      refine (ROf_iv wr z (by omega) (by omega)).mono ?_
      rintro e w5 ⟨n5, A5, c5, l5, rfl, i5, hb5⟩
      have bx := HBX9.out.below hb5
      obtain ⟨y0, y1⟩ := bx.cs
      have g0 := bx.free 0
      have g1 := bx.free 1
      obtain ⟨k0, k1, k2⟩ := bx.back (.bool n5) (.slice A5 l5.length c5)
      have HI5 := Hi i5
      have HBX10 := Hi bx
      have HB5 := Hi hb5
      clear bx i5 hb5 x0 x1 f0 f1
      go_wp2_with fail
      refine bodyPost_ret (v := .agg #[.bool n5, .slice A5 l5.length c5]) (by simp [results, Tryz.results25, go_sem, k0, k2]) rfl ?_
      exact riv_store (bt HK.out (bt hB4.out HB5.out)) (by omega) HBX10.out HI5.out
     ·have hng : (0 : Int) < (n : Int) := by omega
      have hng2 : 0 < n := by omega
      have hnb : ((n : Int) == 0) = false := beq_eq_false_iff_ne.2 (by omega)
      have hne0 : ¬ (n : Int) = 0 := by omega
      have hlt2 : m % n < n := Nat.mod_lt _ (by omega)
      obtain ⟨r, hr⟩ : ∃ r, r = m % n := ⟨_, rfl⟩
      have hmod : (m : Int).tmod (n : Int) = (r : Int) := by rw [Int.tmod_eq_emod_of_nonneg (by omega), hr]; simp
      have hgr : Hid (((Nat.gcd n r : Nat) : Int) = z) := Hi (by
       have h := hgg.out
       rwa [Nat.gcd_comm, Nat.gcd_rec, ← hr, Nat.gcd_comm] at h)
      rw [← hr] at hlt2
      have hrw : wrap64 (r : Int) = (r : Int) := by unfold wrap64; omega
      have HRN := Hi hlt2
      clear hr hgg
      go_wp2_with fail
      clear hrw
      go_region_law fail
      all_goals
       go_simp
       go_roundw
       case rel => exact ⟨_, _, _, _, _, _, _, _, ⟨n, r, rfl, rfl, by omega, by have := HRN.out; omega, hgr, Hi (bw hB4.out)⟩, rfl⟩
       case measure => have := HRN.out; simp [intOf]; omega
   ·have HYE := Hi hye
    have HI1 := Hi i1
    have HI2 := Hi i2
    have HBP := Hi bp
    have HBQ := Hi bq
    have HBL := Hi hbl
    clear hye hzl i1 i2 bp bq hbl
    rcases (show (x'.natAbs < 4611686018427387904 ∧ 4611686018427387904 ≤ y'.natAbs) ∨ (4611686018427387904 ≤ x'.natAbs ∧ y'.natAbs < 4611686018427387904) ∨ (4611686018427387904 ≤ x'.natAbs ∧ 4611686018427387904 ≤ y'.natAbs) by omega) with hn | hn | hn
    all_goals clear hnat
    ·have HN := Hi hn
     clear hn
     go_wp2_with fail
     refine (Rnative_yes HI1.out HN.out.1).mono ?_
     exact m65b8e
    ·have HN := Hi hn
     clear hn
     go_wp2_with fail
     refine (Rnative_no HI1.out HN.out.1).mono ?_
     rintro e w2 ⟨rfl, hb2⟩
     have r0 := (HBQ.out.below hb2).cell0
     have r1 := (HBQ.out.below hb2).cell1
     clear p0 p1 q0 q1
     go_wp2_with fail
     refine (Rnative_yes (HI2.out.below hb2) HN.out.2).mono ?_
     exact m2bace
    ·have HN := Hi hn
     clear hn
     go_wp2_with fail
     refine (Rnative_no HI1.out HN.out.1).mono ?_
     exact m65b8e
open Go.RowKit Go.Shelf
variable {l : List Nat} {n : Bool} {x : Int}
theorem one_not_len (hw : ∀ y ∈ l, y < 4294967296) (hB : isB n l = true) (hz : zI n l = x) (h : l.length ≠ 1) : x ≠ 1 := fun hx => by
 obtain ⟨_, rfl⟩ := canon_eq hw (l2 := [1]) (n2 := false) (by simp) hB (by decide) (by rw [hz, hx]; decide)
 exact h rfl
theorem one_len (hz : zI n l = x) (h : l.length = 1) : (gd l 0 = 1 ∧ n = false) ↔ x = 1 := by
 match l, h with
 | [a], _ =>
  have e : zI n [a] = if n then -(a : Int) else (a : Int) := by unfold zI; simp [val]
  rw [← hz, e]
  show (a = 1 ∧ n = false) ↔ _
  cases n <;> simp <;> omega
theorem m02d48 {P : Prop} (h : P := by
 go_enter Tryz.func111, Tryz.ntmps111
 go_wp2_with fail
 go_ret
 exact ⟨by rw [show decide (x = 1) = false from decide_eq_false HX.out]; rfl, ba (b0 _) _⟩) : P := h
theorem RisOne_iv {w : World} {A : Option Addr} {c : Nat} (h : IV w n A c l x) :
  Calls Tryz.prog 111 #[.agg #[.bool n, .slice A l.length c]] w fun e w' => e = .returned (.bool (decide (x = 1))) ∧ Below w.heap.size w w' := by
 by_cases h1 : l.length = 1
 ·have hiff := one_len h.val h1
  obtain ⟨b, off, hA, hlt, hc⟩ := h.ws.at_ (by omega)
  have hc0 := hc 0 (by omega)
  rw [Nat.add_zero] at hc0
  obtain ⟨g, hg⟩ : ∃ g, g = gd l 0 := ⟨_, rfl⟩
  rw [← hg] at hc0 hiff
  have hne : b ≠ w.heap.size := Nat.ne_of_lt hlt
  have hlen : ((l.length : Int) == 1) = true := by rw [h1]; rfl
  have hl0 : (0 : Int) < (l.length : Int) := by omega
  have HI := Hi hiff
  subst hA
  clear h hc hg hiff
  by_cases hg1 : g = 1
  ·subst hg1
   cases n
   ·have HX : Hid (x = 1) := Hi (HI.out.1 ⟨rfl, rfl⟩)
    clear HI
    go_enter Tryz.func111, Tryz.ntmps111
    go_wp2_with fail
    go_ret
    exact ⟨by rw [show decide (x = 1) = true from decide_eq_true HX.out]; rfl, ba (b0 _) _⟩
   ·have HX : Hid (x ≠ 1) := Hi (fun e => by have := (HI.out.2 e).2; cases this)
    clear HI
    exact m02d48
  ·have HX : Hid (x ≠ 1) := Hi (fun e => hg1 (HI.out.2 e).1)
   clear HI
   have hg2 : ((g : Int) == 1) = false := beq_eq_false_iff_ne.2 (by omega)
   exact m02d48
 ·have hx := one_not_len h.ws.1 h.can h.val h1
  have hlen : ((l.length : Int) == 1) = false := beq_eq_false_iff_ne.2 (by omega)
  have HX := Hi hx
  clear h hx
  exact m02d48
open Go.RowKit Go.Shelf
variable {A B : Option Addr} {c d : Nat} {k l : List Nat} {m n : Bool} {w : World} {x y : Int}
theorem neg_flag (hz : zI m k = y) : (y < 0 → m = true) ∧ (0 < y → m = false) := by
 unfold zI at hz
 cases m <;> simp at hz <;> constructor <;> intro h <;> first | rfl | omega
theorem RSign_iv {x v : Int} (h : IV w n A c l x) (hv : cmpI x 0 = v) :
  Calls Tryz.prog 58 #[.agg #[.bool n, .slice A l.length c]] w fun e w' => e = .returned (.int .i64 v) ∧ Below w.heap.size w w' := by
 have e1 := h.len
 have r := RSign_any n A l.length c l true w rfl (by omega) h.ws h.can
 rwa [sgn_eq h.can, h.val, hv] at r
theorem Rover_a (h : IV w n A c l x) (h2 : IV w m B d k y) (hs : y = 1) :
  Calls Tryz.prog 106 #[.agg #[.bool n, .slice A l.length c], .agg #[.bool m, .slice B k.length d]] w (RIQ w (fN x y) (fD x y)) := by
 have H1 := Hi h
 have H2 := Hi h2
 have HS := Hi hs
 have hm := neg_flag h2.val
 clear h h2 hs
 clear hm
 obtain ⟨W1, hW1, hw1, x0, x1, x2⟩ := hdIIq w n A c l m B d k
 go_enter Tryz.func106, Tryz.ntmps106
 go_wp2_with fail
 rw [← hW1]
 clear hW1
 refine (RisOne_iv (H2.out.below hw1)).mono ?_
 rintro e wa ⟨rfl, hb⟩
 replace x0 := x0.below hb
 replace x1 := x1.below hb
 replace x2 := x2.below hb
 have hw1_ := bt hw1 hb
 clear hb hw1
 rw [show decide (y = 1) = true from decide_eq_true HS.out]
 obtain ⟨C00, C01⟩ := x0.cs
 obtain ⟨C10, C11⟩ := x1.cs
 have e := f_can (can_one x)
 have hy1 := HS.out
 have j1 := Hi (show IV wa n A c l (fN x y) by rw [hy1, e.1]; exact H1.out.below hw1_)
 have j2 := Hi (show IV wa m B d k (fD x y) by have h := H2.out.below hw1_; rw [hy1] at h ⊢; rw [e.2]; exact h)
 clear e hy1
 obtain ⟨f0, f1, f2, f3⟩ := x2.fr
 obtain ⟨r0, r1, r2, r3⟩ := x2.cs
 go_wp2_with fail
 have z2 := x2.stored (.bool n) (.slice A l.length c) (.bool m) (.slice B k.length d)
 obtain ⟨k0, k1, k2, k3⟩ := z2.cs
 refine bodyPost_ret (v := .agg #[.bool n, .slice A l.length c, .bool m, .slice B k.length d]) (by simp [results, Tryz.results106, go_sem, k0, k1, k2, k3]) rfl ?_
 exact riq_store hw1_ (by omega) x2 j1.out j2.out
theorem me671d {P : Prop} (h : P := by
 rw [hw]
 have h := Box2.new wb (.bool n1) (.slice A1 l1.length c1)
 exact h) : P := h
theorem Rover_b (h : IV w n A c l x) (h2 : IV w m B d k y) (hs : y ≠ 1 ∧ 0 < y ∧ ((Nat.gcd x.natAbs y.natAbs : Nat) : Int) = 1) :
  Calls Tryz.prog 106 #[.agg #[.bool n, .slice A l.length c], .agg #[.bool m, .slice B k.length d]] w (RIQ w (fN x y) (fD x y)) := by
 have H1 := Hi h
 have H2 := Hi h2
 have HS := Hi hs
 have hm := neg_flag h2.val
 clear h h2 hs
 have HY0 : Hid (y ≠ 0) := Hi (by have := HS.out; omega)
 obtain ⟨g, hg⟩ : ∃ g, g = ((Nat.gcd x.natAbs y.natAbs : Nat) : Int) := ⟨_, rfl⟩
 have HGE := Hi hg
 have HLG : Hid (Lt 2100 g) := Hi (by rw [hg]; exact lt_gcd (lt_le (lt_val H1.out.ws H1.out.val) H1.out.len) (lt_le (lt_val H2.out.ws H2.out.val) H2.out.len))
 have HGP : Hid (0 < g) := Hi (by have := gcd_pos' (p := x) (q := y) HY0.out; omega)
 have HG1 : Hid (g = 1) := Hi (by have h := HS.out; rw [hg]; omega)
 clear hg
 have hmv : m = false := hm.2 (by have := HS.out; omega)
 subst hmv
 clear hm
 obtain ⟨W1, hW1, hw1, x0, x1, x2⟩ := hdIIq w n A c l false B d k
 go_enter Tryz.func106, Tryz.ntmps106
 go_wp2_with fail
 rw [← hW1]
 clear hW1
 refine (RisOne_iv (H2.out.below hw1)).mono ?_
 rintro e wa ⟨rfl, hb⟩
 replace x0 := x0.below hb
 replace x1 := x1.below hb
 replace x2 := x2.below hb
 have hw1_ := bt hw1 hb
 clear hb hw1
 rw [show decide (y = 1) = false from decide_eq_false (by have := HS.out; omega)]
 refine g0i1i ?_
 intros
 refine (RGcd_iv (H1.out.below hw1_) (H2.out.below hw1_) HGE.out.symm HLG.out).mono ?_
 rintro e wb ⟨n1, A1, c1, l1, rfl, i1, hb⟩
 replace x0 := x0.below hb
 replace x1 := x1.below hb
 replace x2 := x2.below hb
 have hw2_ := bt hw1_ hb
 clear hb hw1_
 have HIg := Hi i1
 clear i1
 go_upto_region 4 with fail
 obtain ⟨wc1, hw⟩ : ∃ W, W = wb.alloc (.cells #[.bool n1, .slice A1 l1.length c1] 24) := ⟨_, rfl⟩
 have xg : Box2 wc1 (wb.heap.size) (.bool n1) (.slice A1 l1.length c1) := by
  exact me671d
 have hb : Below wb.heap.size wb wc1 := by rw [hw]; exact ba (b0 _) _
 rw [← hw]
 clear hw
 replace x0 := x0.below hb
 replace x1 := x1.below hb
 replace x2 := x2.below hb
 replace HIg := Hi (HIg.out.below hb)
 have hw3_ := bt hw2_ hb
 clear hb hw2_
 refine ggi ?_
 intros
 refine (RisOne_iv HIg.out).mono ?_
 rintro e wd ⟨rfl, hb⟩
 replace x0 := x0.below hb
 replace x1 := x1.below hb
 replace x2 := x2.below hb
 replace xg := xg.below hb
 replace HIg := Hi (HIg.out.below hb)
 have hw4_ := bt hw3_ hb
 clear hb hw3_
 rw [show decide (g = 1) = true from decide_eq_true HG1.out]
 obtain ⟨C00, C01⟩ := x0.cs
 obtain ⟨C10, C11⟩ := x1.cs
 have e := f_can (show Can x y from ⟨HS.out.2.1, by have h := HG1.out; have h2 := HGE.out; omega⟩)
 have j1 := Hi (show IV wd n A c l (fN x y) by rw [e.1]; exact H1.out.below hw4_)
 have j2 := Hi (show IV wd false B d k (fD x y) by rw [e.2]; exact H2.out.below hw4_)
 clear e
 obtain ⟨f0, f1, f2, f3⟩ := x2.fr
 obtain ⟨r0, r1, r2, r3⟩ := x2.cs
 go_wp2_with fail
 have z2 := x2.stored (.bool n) (.slice A l.length c) (.bool false) (.slice B k.length d)
 obtain ⟨k0, k1, k2, k3⟩ := z2.cs
 refine bodyPost_ret (v := .agg #[.bool n, .slice A l.length c, .bool false, .slice B k.length d]) (by simp [results, Tryz.results106, go_sem, k0, k1, k2, k3]) rfl ?_
 exact riq_store hw4_ (by omega) x2 j1.out j2.out
theorem Rover_c (h : IV w n A c l x) (h2 : IV w m B d k y) (hs : y ≠ 1 ∧ 0 < y ∧ ((Nat.gcd x.natAbs y.natAbs : Nat) : Int) ≠ 1) :
  Calls Tryz.prog 106 #[.agg #[.bool n, .slice A l.length c], .agg #[.bool m, .slice B k.length d]] w (RIQ w (fN x y) (fD x y)) := by
 have H1 := Hi h
 have H2 := Hi h2
 have HS := Hi hs
 have hm := neg_flag h2.val
 clear h h2 hs
 have HY0 : Hid (y ≠ 0) := Hi (by have := HS.out; omega)
 obtain ⟨g, hg⟩ : ∃ g, g = ((Nat.gcd x.natAbs y.natAbs : Nat) : Int) := ⟨_, rfl⟩
 have HGE := Hi hg
 have HLG : Hid (Lt 2100 g) := Hi (by rw [hg]; exact lt_gcd (lt_le (lt_val H1.out.ws H1.out.val) H1.out.len) (lt_le (lt_val H2.out.ws H2.out.val) H2.out.len))
 have HGP : Hid (0 < g) := Hi (by have := gcd_pos' (p := x) (q := y) HY0.out; omega)
 have HG1 : Hid (g ≠ 1) := Hi (by have h := HS.out; rw [hg]; omega)
 clear hg
 have hmv : m = false := hm.2 (by have := HS.out; omega)
 subst hmv
 clear hm
 obtain ⟨W1, hW1, hw1, x0, x1, x2⟩ := hdIIq w n A c l false B d k
 go_enter Tryz.func106, Tryz.ntmps106
 go_wp2_with fail
 rw [← hW1]
 clear hW1
 refine (RisOne_iv (H2.out.below hw1)).mono ?_
 rintro e wa ⟨rfl, hb⟩
 replace x0 := x0.below hb
 replace x1 := x1.below hb
 replace x2 := x2.below hb
 have hw1_ := bt hw1 hb
 clear hb hw1
 rw [show decide (y = 1) = false from decide_eq_false (by have := HS.out; omega)]
 refine g0i1i ?_
 intros
 refine (RGcd_iv (H1.out.below hw1_) (H2.out.below hw1_) HGE.out.symm HLG.out).mono ?_
 rintro e wb ⟨n1, A1, c1, l1, rfl, i1, hb⟩
 replace x0 := x0.below hb
 replace x1 := x1.below hb
 replace x2 := x2.below hb
 have hw2_ := bt hw1_ hb
 clear hb hw1_
 have HIg := Hi i1
 clear i1
 go_upto_region 4 with fail
 obtain ⟨wc1, hw⟩ : ∃ W, W = wb.alloc (.cells #[.bool n1, .slice A1 l1.length c1] 24) := ⟨_, rfl⟩
 have xg : Box2 wc1 (wb.heap.size) (.bool n1) (.slice A1 l1.length c1) := by
  exact me671d
 have hb : Below wb.heap.size wb wc1 := by rw [hw]; exact ba (b0 _) _
 rw [← hw]
 clear hw
 replace x0 := x0.below hb
 replace x1 := x1.below hb
 replace x2 := x2.below hb
 replace HIg := Hi (HIg.out.below hb)
 have hw3_ := bt hw2_ hb
 clear hb hw2_
 refine ggi ?_
 intros
 refine (RisOne_iv HIg.out).mono ?_
 rintro e wd ⟨rfl, hb⟩
 replace x0 := x0.below hb
 replace x1 := x1.below hb
 replace x2 := x2.below hb
 replace xg := xg.below hb
 replace HIg := Hi (HIg.out.below hb)
 have hw4_ := bt hw3_ hb
 clear hb hw3_
 rw [show decide (g = 1) = false from decide_eq_false HG1.out]
 refine g0i1i ?_
 intros
 refine (RSign_iv (H2.out.below hw4_) rfl).mono ?_
 rintro e we ⟨rfl, hb⟩
 replace x0 := x0.below hb
 replace x1 := x1.below hb
 replace x2 := x2.below hb
 replace xg := xg.below hb
 replace HIg := Hi (HIg.out.below hb)
 have hw5_ := bt hw4_ hb
 clear hb hw4_
 rw [cmpI_pos HS.out.2.1]
 refine g0i1igi ?_
 intros
 have HG0 : Hid (g ≠ 0) := Hi (by have := HGP.out; omega)
 have HC := (hj x0.hc (hj x1.hc xg.hc))
 have HW := Hi hw5_
 have Gx0 := Hi x0
 have Gx1 := Hi x1
 have Gx2 := Hi x2
 have Gxg := Hi xg
 clear x0 x1 x2 xg hw5_
 refine rg0 7 HC fun hHeld => ?_
 refine tk 0 ?_
 refine tk 1 ?_
 refine tk 3 ?_
 refine tk 4 ?_
 refine cl 2 fun K hK => ?_
 go_simp
 go_at_call 97
 refine (RQuo_iv (H1.out.below (bt HW.out (bw (b0 _)))) (HIg.out.below (bw (b0 _))) HG0.out).mono ?_
 rintro e wi ⟨n5, A5, c5, l5, rfl, i5, hb⟩
 have HBwi := Hi (bt (bw (b0 we)) hb)
 have HI5 := Hi i5
 clear hb i5 hHeld
 refine rk hK (HC.out _ HBwi.out) fun hHeld => ?_
 clear hK K
 refine cl 5 fun K hK => ?_
 go_simp
 go_at_call 97
 refine (RQuo_iv (H2.out.below (bt HW.out HBwi.out)) (HIg.out.below HBwi.out) HG0.out).mono ?_
 rintro e wj ⟨n6, A6, c6, l6, rfl, i6, hb⟩
 have HBwj := Hi (bt HBwi.out hb)
 have HJ5 := Hi (HI5.out.below hb)
 have HI6 := Hi i6
 clear hb i6 hHeld
 refine rk hK (HC.out _ HBwj.out) fun hHeld => ?_
 clear hK K
 refine tk 6 ?_
 refine wpAnyH_done (by kernel_rfl) ?_ _
 simp only [HT]
 clear hHeld
 have x2 := Gx2.out.below HBwj.out
 replace HIg := Hi (HIg.out.below HBwj.out)
 have hw6_ := bt HW.out HBwj.out
 have e := f_pos (x := x) HS.out.2.1
 rw [← HGE.out] at e
 have j1 := HJ5.out
 have j2 := HI6.out
 rw [e.1] at j1
 rw [e.2] at j2
 clear e
 obtain ⟨f0, f1, f2, f3⟩ := x2.fr
 obtain ⟨r0, r1, r2, r3⟩ := x2.cs
 go_wp2_with fail
 have z2 := x2.stored (.bool n5) (.slice A5 l5.length c5) (.bool n6) (.slice A6 l6.length c6)
 obtain ⟨k0, k1, k2, k3⟩ := z2.cs
 refine bodyPost_ret (v := .agg #[.bool n5, .slice A5 l5.length c5, .bool n6, .slice A6 l6.length c6]) (by simp [results, Tryz.results106, go_sem, k0, k1, k2, k3]) rfl ?_
 exact riq_store hw6_ (by omega) x2 j1 j2
theorem m2f02f {P : Prop} (h : P := by
 refine g0i1i ?_
 intros
 refine (RSign_iv (H2.out.below hw4_) rfl).mono ?_
 rintro e we ⟨rfl, hb⟩
 replace x0 := x0.below hb
 replace x1 := x1.below hb
 replace x2 := x2.below hb
 replace xg := xg.below hb
 replace HIg := Hi (HIg.out.below hb)
 have hw5_ := bt hw4_ hb
 clear hb hw4_
 rw [cmpI_neg HS.out.1]
 refine ggi ?_
 intros
 have HLN : Hid (Lt 2100 (-g)) := Hi (lt_neg HLG.out)
 refine (RNeg_iv HIg.out rfl HLN.out).mono ?_
 rintro e wf ⟨n2, A2, c2, l2, rfl, i2, hb⟩
 replace x0 := x0.below hb
 replace x1 := x1.below hb
 replace x2 := x2.below hb
 replace xg := xg.below hb
 replace HIg := Hi (HIg.out.below hb)
 have hw6_ := bt hw5_ hb
 clear hb hw5_
 obtain ⟨C00, C01⟩ := x0.cs
 obtain ⟨C10, C11⟩ := x1.cs
 obtain ⟨Cg0, Cg1⟩ := xg.cs
 have fg0 := xg.free 0
 have fg1 := xg.free 1
 have hlg := xg.lt
 have nx0 : w.heap.size ≠ wb.heap.size := Nat.ne_of_lt LX.out.1
 have nx1 : w.heap.size + 1 ≠ wb.heap.size := Nat.ne_of_lt LX.out.2.1
 have nx2 : w.heap.size + 1 + 1 ≠ wb.heap.size := Nat.ne_of_lt LX.out.2.2
 go_wp2_with fail
 clear C00 C01 C10 C11 Cg0 Cg1
 obtain ⟨wh, hw⟩ : ∃ W, W = (wf.setCell ⟨wb.heap.size, 0, none⟩ (.bool n2)).setCell ⟨wb.heap.size, 1, none⟩ (.slice A2 l2.length c2) := ⟨_, rfl⟩
 rw [← hw]
 have HIg := Hi (show IV wh n2 A2 c2 l2 (-g) by rw [hw]; exact i2.two xg _ _)
 have x0 := (show Box2 wh _ _ _ by rw [hw]; exact x0.far nx0 _ _)
 have x1 := (show Box2 wh _ _ _ by rw [hw]; exact x1.far nx1 _ _)
 have x2 := (show Box4 wh _ _ _ _ _ by rw [hw]; exact x2.far2 nx2 _ _)
 have hwh : Below w.heap.size w wh := by rw [hw]; exact b2 hw6_ (Nat.le_of_lt LX.out.1) _ _
 have xg := (show Box2 wh wb.heap.size (.bool n2) (.slice A2 l2.length c2) by rw [hw]; exact xg.stored _ _)
 clear hw fg0 fg1 hlg nx0 nx1 nx2 i2
 refine g0i1igi ?_
 intros
 have HG0 : Hid ((-g) ≠ 0) := Hi (by have := HGP.out; omega)
 have HC := (hj x0.hc (hj x1.hc xg.hc))
 have HW := Hi hwh
 have Gx0 := Hi x0
 have Gx1 := Hi x1
 have Gx2 := Hi x2
 have Gxg := Hi xg
 clear x0 x1 x2 xg hwh
 refine rg0 7 HC fun hHeld => ?_
 refine tk 0 ?_
 refine tk 1 ?_
 refine tk 3 ?_
 refine tk 4 ?_
 refine cl 2 fun K hK => ?_
 go_simp
 go_at_call 97
 refine (RQuo_iv (H1.out.below (bt HW.out (bw (b0 _)))) (HIg.out.below (bw (b0 _))) HG0.out).mono ?_
 rintro e wi ⟨n5, A5, c5, l5, rfl, i5, hb⟩
 have HBwi := Hi (bt (bw (b0 wh)) hb)
 have HI5 := Hi i5
 clear hb i5 hHeld
 refine rk hK (HC.out _ HBwi.out) fun hHeld => ?_
 clear hK K
 refine cl 5 fun K hK => ?_
 go_simp
 go_at_call 97
 refine (RQuo_iv (H2.out.below (bt HW.out HBwi.out)) (HIg.out.below HBwi.out) HG0.out).mono ?_
 rintro e wj ⟨n6, A6, c6, l6, rfl, i6, hb⟩
 have HBwj := Hi (bt HBwi.out hb)
 have HJ5 := Hi (HI5.out.below hb)
 have HI6 := Hi i6
 clear hb i6 hHeld
 refine rk hK (HC.out _ HBwj.out) fun hHeld => ?_
 clear hK K
 refine tk 6 ?_
 refine wpAnyH_done (by kernel_rfl) ?_ _
 simp only [HT]
 clear hHeld
 have x2 := Gx2.out.below HBwj.out
 replace HIg := Hi (HIg.out.below HBwj.out)
 have hw7_ := bt HW.out HBwj.out
 have e := f_neg' (x := x) HS.out.1
 rw [← HGE.out] at e
 have j1 := HJ5.out
 have j2 := HI6.out
 rw [Int.ediv_neg, e.1] at j1
 rw [Int.ediv_neg, e.2] at j2
 clear e
 obtain ⟨f0, f1, f2, f3⟩ := x2.fr
 obtain ⟨r0, r1, r2, r3⟩ := x2.cs
 go_wp2_with fail
 have z2 := x2.stored (.bool n5) (.slice A5 l5.length c5) (.bool n6) (.slice A6 l6.length c6)
 obtain ⟨k0, k1, k2, k3⟩ := z2.cs
 refine bodyPost_ret (v := .agg #[.bool n5, .slice A5 l5.length c5, .bool n6, .slice A6 l6.length c6]) (by simp [results, Tryz.results106, go_sem, k0, k1, k2, k3]) rfl ?_
 exact riq_store hw7_ (by omega) x2 j1 j2) : P := h
theorem Rover_n1 (h : IV w n A c l x) (h2 : IV w m B d k y) (hs : y < 0 ∧ ((Nat.gcd x.natAbs y.natAbs : Nat) : Int) = 1) :
  Calls Tryz.prog 106 #[.agg #[.bool n, .slice A l.length c], .agg #[.bool m, .slice B k.length d]] w (RIQ w (fN x y) (fD x y)) := by
 have H1 := Hi h
 have H2 := Hi h2
 have HS := Hi hs
 have hm := neg_flag h2.val
 clear h h2 hs
 have HY0 : Hid (y ≠ 0) := Hi (by have := HS.out; omega)
 obtain ⟨g, hg⟩ : ∃ g, g = ((Nat.gcd x.natAbs y.natAbs : Nat) : Int) := ⟨_, rfl⟩
 have HGE := Hi hg
 have HLG : Hid (Lt 2100 g) := Hi (by rw [hg]; exact lt_gcd (lt_le (lt_val H1.out.ws H1.out.val) H1.out.len) (lt_le (lt_val H2.out.ws H2.out.val) H2.out.len))
 have HGP : Hid (0 < g) := Hi (by have := gcd_pos' (p := x) (q := y) HY0.out; omega)
 have HG1 : Hid (g = 1) := Hi (by have h := HS.out; rw [hg]; omega)
 clear hg
 have hmv : m = true := hm.1 (by have := HS.out; omega)
 subst hmv
 clear hm
 obtain ⟨W1, hW1, hw1, x0, x1, x2⟩ := hdIIq w n A c l true B d k
 go_enter Tryz.func106, Tryz.ntmps106
 go_wp2_with fail
 rw [← hW1]
 clear hW1
 refine (RisOne_iv (H2.out.below hw1)).mono ?_
 rintro e wa ⟨rfl, hb⟩
 replace x0 := x0.below hb
 replace x1 := x1.below hb
 replace x2 := x2.below hb
 have hw1_ := bt hw1 hb
 clear hb hw1
 rw [show decide (y = 1) = false from decide_eq_false (by have := HS.out; omega)]
 refine g0i1i ?_
 intros
 refine (RGcd_iv (H1.out.below hw1_) (H2.out.below hw1_) HGE.out.symm HLG.out).mono ?_
 rintro e wb ⟨n1, A1, c1, l1, rfl, i1, hb⟩
 replace x0 := x0.below hb
 replace x1 := x1.below hb
 replace x2 := x2.below hb
 have hw2_ := bt hw1_ hb
 clear hb hw1_
 have HIg := Hi i1
 clear i1
 go_upto_region 4 with fail
 have LX := Hi (And.intro x0.lt (And.intro x1.lt x2.lt))
 obtain ⟨wc1, hw⟩ : ∃ W, W = wb.alloc (.cells #[.bool n1, .slice A1 l1.length c1] 24) := ⟨_, rfl⟩
 have xg : Box2 wc1 (wb.heap.size) (.bool n1) (.slice A1 l1.length c1) := by
  rw [hw]
  have h := Box2.new wb (.bool n1) (.slice A1 l1.length c1)
  exact h
 have hb : Below wb.heap.size wb wc1 := by rw [hw]; exact ba (b0 _) _
 rw [← hw]
 clear hw
 replace x0 := x0.below hb
 replace x1 := x1.below hb
 replace x2 := x2.below hb
 replace HIg := Hi (HIg.out.below hb)
 have hw3_ := bt hw2_ hb
 clear hb hw2_
 refine ggi ?_
 intros
 refine (RisOne_iv HIg.out).mono ?_
 rintro e wd ⟨rfl, hb⟩
 replace x0 := x0.below hb
 replace x1 := x1.below hb
 replace x2 := x2.below hb
 replace xg := xg.below hb
 replace HIg := Hi (HIg.out.below hb)
 have hw4_ := bt hw3_ hb
 clear hb hw3_
 rw [show decide (g = 1) = true from decide_eq_true HG1.out]
 exact m2f02f
theorem Rover_n2 (h : IV w n A c l x) (h2 : IV w m B d k y) (hs : y < 0 ∧ ((Nat.gcd x.natAbs y.natAbs : Nat) : Int) ≠ 1) :
  Calls Tryz.prog 106 #[.agg #[.bool n, .slice A l.length c], .agg #[.bool m, .slice B k.length d]] w (RIQ w (fN x y) (fD x y)) := by
 have H1 := Hi h
 have H2 := Hi h2
 have HS := Hi hs
 have hm := neg_flag h2.val
 clear h h2 hs
 have HY0 : Hid (y ≠ 0) := Hi (by have := HS.out; omega)
 obtain ⟨g, hg⟩ : ∃ g, g = ((Nat.gcd x.natAbs y.natAbs : Nat) : Int) := ⟨_, rfl⟩
 have HGE := Hi hg
 have HLG : Hid (Lt 2100 g) := Hi (by rw [hg]; exact lt_gcd (lt_le (lt_val H1.out.ws H1.out.val) H1.out.len) (lt_le (lt_val H2.out.ws H2.out.val) H2.out.len))
 have HGP : Hid (0 < g) := Hi (by have := gcd_pos' (p := x) (q := y) HY0.out; omega)
 have HG1 : Hid (g ≠ 1) := Hi (by have h := HS.out; rw [hg]; omega)
 clear hg
 have hmv : m = true := hm.1 (by have := HS.out; omega)
 subst hmv
 clear hm
 obtain ⟨W1, hW1, hw1, x0, x1, x2⟩ := hdIIq w n A c l true B d k
 go_enter Tryz.func106, Tryz.ntmps106
 go_wp2_with fail
 rw [← hW1]
 clear hW1
 refine (RisOne_iv (H2.out.below hw1)).mono ?_
 rintro e wa ⟨rfl, hb⟩
 replace x0 := x0.below hb
 replace x1 := x1.below hb
 replace x2 := x2.below hb
 have hw1_ := bt hw1 hb
 clear hb hw1
 rw [show decide (y = 1) = false from decide_eq_false (by have := HS.out; omega)]
 refine g0i1i ?_
 intros
 refine (RGcd_iv (H1.out.below hw1_) (H2.out.below hw1_) HGE.out.symm HLG.out).mono ?_
 rintro e wb ⟨n1, A1, c1, l1, rfl, i1, hb⟩
 replace x0 := x0.below hb
 replace x1 := x1.below hb
 replace x2 := x2.below hb
 have hw2_ := bt hw1_ hb
 clear hb hw1_
 have HIg := Hi i1
 clear i1
 go_upto_region 4 with fail
 have LX := Hi (And.intro x0.lt (And.intro x1.lt x2.lt))
 obtain ⟨wc1, hw⟩ : ∃ W, W = wb.alloc (.cells #[.bool n1, .slice A1 l1.length c1] 24) := ⟨_, rfl⟩
 have xg : Box2 wc1 (wb.heap.size) (.bool n1) (.slice A1 l1.length c1) := by
  rw [hw]
  have h := Box2.new wb (.bool n1) (.slice A1 l1.length c1)
  exact h
 have hb : Below wb.heap.size wb wc1 := by rw [hw]; exact ba (b0 _) _
 rw [← hw]
 clear hw
 replace x0 := x0.below hb
 replace x1 := x1.below hb
 replace x2 := x2.below hb
 replace HIg := Hi (HIg.out.below hb)
 have hw3_ := bt hw2_ hb
 clear hb hw2_
 refine ggi ?_
 intros
 refine (RisOne_iv HIg.out).mono ?_
 rintro e wd ⟨rfl, hb⟩
 replace x0 := x0.below hb
 replace x1 := x1.below hb
 replace x2 := x2.below hb
 replace xg := xg.below hb
 replace HIg := Hi (HIg.out.below hb)
 have hw4_ := bt hw3_ hb
 clear hb hw3_
 rw [show decide (g = 1) = false from decide_eq_false HG1.out]
 exact m2f02f
theorem Rover_iv (h : IV w n A c l x) (h2 : IV w m B d k y) (hy : y ≠ 0) :
  Calls Tryz.prog 106 #[.agg #[.bool n, .slice A l.length c], .agg #[.bool m, .slice B k.length d]] w (RIQ w (fN x y) (fD x y)) := by
 by_cases h1 : y = 1
 ·exact Rover_a h h2 h1
 ·by_cases h3 : ((Nat.gcd x.natAbs y.natAbs : Nat) : Int) = 1
  ·by_cases h4 : 0 < y
   ·exact Rover_b h h2 ⟨h1, h4, h3⟩
   ·exact Rover_n1 h h2 ⟨by omega, h3⟩
  ·by_cases h4 : 0 < y
   ·exact Rover_c h h2 ⟨h1, h4, h3⟩
   ·exact Rover_n2 h h2 ⟨by omega, h3⟩
open Go.RowKit Go.Shelf
theorem Rone_iv (w : World) :
  Calls Tryz.prog 107 #[] w (RIV w 1) := by
 go_enter Tryz.func107, Tryz.ntmps107
 go_wp2_with fail
 refine (ROf_iv _ 1 (by omega) (by omega)).mono ?_
 rintro e w1 ⟨n1, A1, c1, l1, rfl, i1, hb⟩
 have hbx := (Box2.new w (.bool false) (.slice none 0 0)).below hb
 have hK := bt (ba (b0 w) _) hb
 have f0 := hbx.free 0
 have f1 := hbx.free 1
 obtain ⟨r0, r1⟩ := hbx.cs
 obtain ⟨k0, k1, k2⟩ := hbx.back (.bool n1) (.slice A1 l1.length c1)
 have HI := Hi i1
 clear i1 hb
 go_wp2_with fail
 refine bodyPost_ret (v := .agg #[.bool n1, .slice A1 l1.length c1]) (by simp [results, Tryz.results107, go_sem, k0, k2]) rfl ?_
 exact riv_store hK (Nat.le_refl _) hbx HI.out
open Go.RowKit Go.Shelf
theorem RMake_iv {w : World} {n m : Bool} {A B : Option Addr} {c d : Nat} {l k : List Nat} {x y : Int} (h : IV w n A c l x) (h2 : IV w m B d k y) (hs : y ≠ 0) :
  Calls Tryz.prog 30 #[.agg #[.bool n, .slice A l.length c], .agg #[.bool m, .slice B k.length d]] w (RQE w (fN x y) (fD x y) 0) := by
 have H1 := Hi h
 have H2 := Hi h2
 have HS := Hi hs
 clear h h2 hs
 obtain ⟨W1, hW1, hw1, x0, x1, x2⟩ := hdIIq w n A c l m B d k
 go_enter Tryz.func30, Tryz.ntmps30
 go_wp2_with fail
 rw [← hW1]
 clear hW1
 refine (RIs_iv (H1.out.below hw1)).mono ?_
 rintro e wa ⟨rfl, hb⟩
 replace x0 := x0.below hb
 replace x1 := x1.below hb
 replace x2 := x2.below hb
 have hw1_ := bt hw1 hb
 clear hb hw1
 refine g0i1i ?_
 intros
 refine (RIs_iv (H2.out.below hw1_)).mono ?_
 rintro e wb ⟨rfl, hb⟩
 replace x0 := x0.below hb
 replace x1 := x1.below hb
 replace x2 := x2.below hb
 have hw2_ := bt hw1_ hb
 clear hb hw1_
 refine g0i1i ?_
 intros
 refine (RSign_iv (H2.out.below hw2_) rfl).mono ?_
 rintro e wd ⟨rfl, hb⟩
 replace x0 := x0.below hb
 replace x1 := x1.below hb
 replace x2 := x2.below hb
 have hw3_ := bt hw2_ hb
 clear hb hw2_
 obtain ⟨sg, hsg⟩ : ∃ s, s = cmpI y 0 := ⟨_, rfl⟩
 have hsg0 : sg ≠ 0 := by
  rcases Int.lt_trichotomy y 0 with h | h | h
  ·rw [hsg, cmpI_neg h]; decide
  ·exact absurd h HS.out
  ·rw [hsg, cmpI_pos h]; decide
 rw [← hsg]
 have hsg1 : (sg == 0) = false := beq_eq_false_iff_ne.2 hsg0
 clear hsg
 refine g0i1i ?_
 intros
 refine (Rover_iv (H1.out.below hw3_) (H2.out.below hw3_) HS.out).mono ?_
 rintro e we ⟨n3, A3, c3, l3, n4, A4, c4, l4, rfl, i3, i4, hb⟩
 replace x0 := x0.below hb
 replace x1 := x1.below hb
 replace x2 := x2.below hb
 have hw4_ := bt hw3_ hb
 clear hb hw3_
 have HI3 := Hi i3
 have HI4 := Hi i4
 clear i3 i4 hsg0 hsg1
 obtain ⟨f0, f1, f2, f3⟩ := x2.fr
 obtain ⟨r0, r1, r2, r3⟩ := x2.cs
 go_wp2_with fail
 have z2 := x2.stored (.bool n3) (.slice A3 l3.length c3) (.bool n4) (.slice A4 l4.length c4)
 obtain ⟨k0, k1, k2, k3⟩ := z2.cs
 refine bodyPost_ret (v := .tuple #[.agg #[.bool n3, .slice A3 l3.length c3, .bool n4, .slice A4 l4.length c4], .int .i64 0]) (by simp [results, Tryz.results30, go_sem, k0, k1, k2, k3]) rfl ?_
 exact rqe_store hw4_ (by omega) x2 HI3.out HI4.out
open Go.RowKit Go.Shelf
theorem Of64_iv (w : World) (x : Int) (h1 : -9223372036854775808 ≤ x) (h2 : x ≤ 9223372036854775807) :
  Calls Tryz.prog 77 #[.int .i64 x] w (RIV w x) :=
 (Of_any w w x h1 h2 (b0 _)).mono fun e w' hr => hr.iv rfl (lt_le (lt_two (by omega)) (by decide))
theorem RQOf_iv (w : World) (i j : Int) (hi : -9223372036854775808 ≤ i ∧ i ≤ 9223372036854775807) (hj : -9223372036854775808 ≤ j ∧ j ≤ 9223372036854775807) (hs : j ≠ 0) :
  Calls Tryz.prog 28 #[.int .i64 i, .int .i64 j] w (RQE w (fN i j) (fD i j) 0) := by
 have HI := Hi hi
 have HJ := Hi hj
 have HS := Hi hs
 clear hi hj hs
 obtain ⟨W1, hW1, hw1, x0⟩ := hdq w
 go_enter Tryz.func28, Tryz.ntmps28
 go_wp2_with fail
 rw [← hW1]
 clear hW1
 go_wp2_with fail
 refine (ROf_iv W1 i HI.out.1 HI.out.2).mono ?_
 rintro e w1 ⟨n1, A1, c1, l1, rfl, i1, hb⟩
 replace x0 := x0.below hb
 have hw1_ := bt hw1 hb
 clear hb hw1
 have HI1 := Hi i1
 clear i1
 go_wp2_with fail
 refine (ROf_iv w1 j HJ.out.1 HJ.out.2).mono ?_
 rintro e w2 ⟨n2, A2, c2, l2, rfl, i2, hb⟩
 replace x0 := x0.below hb
 replace HI1 := Hi (HI1.out.below hb)
 have hw2_ := bt hw1_ hb
 clear hb hw1_
 have HI2 := Hi i2
 clear i2
 go_wp2_with fail
 refine (RMake_iv HI1.out HI2.out HS.out).mono ?_
 rintro e w3 ⟨n3, A3, c3, l3, n4, A4, c4, l4, rfl, i3, i4, hb⟩
 replace x0 := x0.below hb
 replace HI1 := Hi (HI1.out.below hb)
 replace HI2 := Hi (HI2.out.below hb)
 have hw3_ := bt hw2_ hb
 clear hb hw2_
 have HI3 := Hi i3
 have HI4 := Hi i4
 clear i3 i4
 obtain ⟨f0, f1, f2, f3⟩ := x0.fr
 obtain ⟨r0, r1, r2, r3⟩ := x0.cs
 go_wp2_with fail
 have z2 := x0.stored (.bool n3) (.slice A3 l3.length c3) (.bool n4) (.slice A4 l4.length c4)
 obtain ⟨k0, k1, k2, k3⟩ := z2.cs
 refine bodyPost_ret (v := .tuple #[.agg #[.bool n3, .slice A3 l3.length c3, .bool n4, .slice A4 l4.length c4], .int .i64 0]) (by simp [results, Tryz.results28, go_sem, k0, k1, k2, k3]) rfl ?_
 exact rqe_store hw3_ (by omega) x0 HI3.out HI4.out
theorem QOf_neg (w : World) (i j : Int) (hi : -9223372036854775808 ≤ i ∧ i ≤ 9223372036854775807) (hj : -9223372036854775808 ≤ j ∧ j ≤ 9223372036854775807) (hs : j < 0) :
  Calls Tryz.prog 27 #[.int .i64 i, .int .i64 j] w (RQE w (fN i j) (fD i j) 0) := by
 have HI := Hi hi
 have HJ := Hi hj
 have HS := Hi hs
 clear hi hj hs
 obtain ⟨W1, hW1, hw1, x0⟩ := hdq w
 go_enter Tryz.func27, Tryz.ntmps27
 go_wp2_with fail
 rw [← hW1]
 clear hW1
 go_wp2_with fail
 refine (Of64_iv W1 i HI.out.1 HI.out.2).mono ?_
 rintro e w1 ⟨n1, A1, c1, l1, rfl, i1, hb⟩
 replace x0 := x0.below hb
 have hw1_ := bt hw1 hb
 clear hb hw1
 have HI1 := Hi i1
 clear i1
 go_wp2_with fail
 refine (Of64_iv w1 j HJ.out.1 HJ.out.2).mono ?_
 rintro e w2 ⟨n2, A2, c2, l2, rfl, i2, hb⟩
 replace x0 := x0.below hb
 replace HI1 := Hi (HI1.out.below hb)
 have hw2_ := bt hw1_ hb
 clear hb hw1_
 have HI2 := Hi i2
 clear i2
 go_wp2_with fail
 refine (Make_neg HI1.out HI2.out HS.out).mono ?_
 rintro e w3 ⟨n3, A3, c3, l3, n4, A4, c4, l4, rfl, i3, i4, hb⟩
 replace x0 := x0.below hb
 replace HI1 := Hi (HI1.out.below hb)
 replace HI2 := Hi (HI2.out.below hb)
 have hw3_ := bt hw2_ hb
 clear hb hw2_
 have HI3 := Hi i3
 have HI4 := Hi i4
 clear i3 i4
 obtain ⟨f0, f1, f2, f3⟩ := x0.fr
 obtain ⟨r0, r1, r2, r3⟩ := x0.cs
 go_wp2_with fail
 have z2 := x0.stored (.bool n3) (.slice A3 l3.length c3) (.bool n4) (.slice A4 l4.length c4)
 obtain ⟨k0, k1, k2, k3⟩ := z2.cs
 refine bodyPost_ret (v := .tuple #[.agg #[.bool n3, .slice A3 l3.length c3, .bool n4, .slice A4 l4.length c4], .int .i64 0]) (by simp [results, Tryz.results27, go_sem, k0, k1, k2, k3]) rfl ?_
 exact rqe_store hw3_ (by omega) x0 HI3.out HI4.out
open Go.RowKit Go.Shelf
theorem mafd61 {P : Prop} (h : P := by
 have hw2_ := bt hw1_ hb
 clear hb hw1_
 go_wp2_with fail
 go_ret
 exact ⟨rfl, hw2_⟩) : P := h
theorem RQSame_iv {w : World} {n m : Bool} {A B : Option Addr} {c d : Nat} {l k : List Nat} {x y : Int} (h : IV w n A c l x) (h2 : IV w m B d k y) {n' m' : Bool} {A' B' : Option Addr} {c' d' : Nat} {l' k' : List Nat} (h3 : IV w n' A' c' l' x) (h4 : IV w m' B' d' k' y) :
  Calls Tryz.prog 32 #[.agg #[.bool n, .slice A l.length c, .bool m, .slice B k.length d], .agg #[.bool n', .slice A' l'.length c', .bool m', .slice B' k'.length d']] w fun e w' => e = .returned (.bool true) ∧ Below w.heap.size w w' := by
 have H1 := Hi h
 have H2 := Hi h2
 have H3 := Hi h3
 have H4 := Hi h4
 clear h h2 h3 h4
 obtain ⟨W1, hW1, hw1, x0, x1⟩ := hdQQ w n A c l m B d k n' A' c' l' m' B' d' k'
 go_enter Tryz.func32, Tryz.ntmps32
 go_wp2_with fail
 rw [← hW1]
 clear hW1
 refine (Same_iv (H1.out.below hw1) (H3.out.below hw1)).mono ?_
 rintro e wa ⟨rfl, hb⟩
 replace x0 := x0.below hb
 replace x1 := x1.below hb
 have hw1_ := bt hw1 hb
 clear hb hw1
 refine g01 ?_
 intros
 refine (Same_iv (H2.out.below hw1_) (H4.out.below hw1_)).mono ?_
 rintro e wb ⟨rfl, hb⟩
 replace x0 := x0.below hb
 replace x1 := x1.below hb
 exact mafd61
theorem of_iv (w : World) (i j : Int) (hi : -9223372036854775808 ≤ i ∧ i ≤ 9223372036854775807) (hj : -9223372036854775808 ≤ j ∧ j ≤ 9223372036854775807) (hs : j ≠ 0) :
  Calls Tryz.prog 63 #[.int .i64 i, .int .i64 j] w (RIQ w (fN i j) (fD i j)) := by
 have HI := Hi hi
 have HJ := Hi hj
 have HS := Hi hs
 clear hi hj hs
 obtain ⟨W1, hW1, hw1, x0⟩ := hdq w
 go_enter Tryz.func63, Tryz.ntmps63
 go_wp2_with fail
 rw [← hW1]
 clear hW1
 go_wp2_with fail
 refine (RQOf_iv W1 i j HI.out HJ.out HS.out).mono ?_
 rintro e w1 ⟨n1, A1, c1, l1, n2, A2, c2, l2, rfl, i1, i2, hb⟩
 replace x0 := x0.below hb
 have hw1_ := bt hw1 hb
 clear hb hw1
 have HI1 := Hi i1
 have HI2 := Hi i2
 clear i1 i2
 go_upto_region 2 with fail
 obtain ⟨w2, hw, xa, hb⟩ := nb4 w1 n1 A1 c1 l1 n2 A2 c2 l2
 rw [← hw]
 clear hw
 replace x0 := x0.below hb
 replace HI1 := Hi (HI1.out.below hb)
 replace HI2 := Hi (HI2.out.below hb)
 have hw2_ := bt hw1_ hb
 clear hb hw1_
 obtain ⟨Ca0, Ca1, Ca2, Ca3⟩ := xa.cs
 obtain ⟨f0, f1, f2, f3⟩ := x0.fr
 obtain ⟨r0, r1, r2, r3⟩ := x0.cs
 go_wp2_with fail
 have z2 := x0.stored (.bool n1) (.slice A1 l1.length c1) (.bool n2) (.slice A2 l2.length c2)
 obtain ⟨k0, k1, k2, k3⟩ := z2.cs
 refine bodyPost_ret (v := .agg #[.bool n1, .slice A1 l1.length c1, .bool n2, .slice A2 l2.length c2]) (by simp [results, Tryz.results63, go_sem, k0, k1, k2, k3]) rfl ?_
 exact riq_store hw2_ (by omega) x0 HI1.out HI2.out
open Go.RowKit Go.Shelf
variable {A B : Option Addr} {c d : Nat} {k l : List Nat} {m n : Bool} {w : World} {x y : Int}
theorem m488b0 {P : Prop} (h : P := by
 rintro e wa ⟨n1, A1, c1, l1, rfl, i1, hb⟩
 replace x0 := x0.below hb
 replace x1 := x1.below hb
 have hw1_ := bt hw1 hb
 clear hb hw1
 have HI1 := Hi i1
 clear i1
 go_wp2_with fail
 refine (isOne_iv HI1.out).mono ?_
 rintro e wb ⟨rfl, hb⟩
 replace x0 := x0.below hb
 replace x1 := x1.below hb
 replace HI1 := Hi (HI1.out.below hb)
 have hw2_ := bt hw1_ hb
 clear hb hw1_
 go_wp2_with fail
 go_ret
 exact ⟨rfl, hw2_⟩) : P := h
theorem coprime_iv (h : IV w n A c l x) (h2 : IV w m B d k y) (hc : Can x y) :
  Calls Tryz.prog 109 #[.agg #[.bool n, .slice A l.length c], .agg #[.bool m, .slice B k.length d]] w fun e w' => e = .returned (.bool true) ∧ Below w.heap.size w w' := by
 have H1 := Hi h
 have H2 := Hi h2
 have HC := Hi hc
 have HG : Hid (((Nat.gcd x.natAbs y.natAbs : Nat) : Int) = 1) := Hi (by rw [hc.2]; rfl)
 have HL1 : Hid (Lt 2100 1) := Hi (lt_le (lt_one (by decide)) (by decide))
 clear h h2 hc
 obtain ⟨W1, hW1, hw1, x0, x1⟩ := hdII w n A c l m B d k
 go_enter Tryz.func109, Tryz.ntmps109
 go_wp2_with fail
 rw [← hW1]
 clear hW1
 refine g0i1i ?_
 intros
 refine (Gcd_iv (H1.out.below hw1) (H2.out.below hw1) HG.out HL1.out).mono ?_
 exact m488b0
theorem sound_iv (h : IV w n A c l x) (h2 : IV w m B d k y) (hc : Can x y) :
  Calls Tryz.prog 108 #[.agg #[.bool n, .slice A l.length c, .bool m, .slice B k.length d]] w fun e w' => e = .returned (.bool true) ∧ Below w.heap.size w w' := by
 have H1 := Hi h
 have H2 := Hi h2
 have HC := Hi hc
 have HG : Hid (((Nat.gcd x.natAbs y.natAbs : Nat) : Int) = 1) := Hi (by rw [hc.2]; rfl)
 have HL1 : Hid (Lt 2100 1) := Hi (lt_le (lt_one (by decide)) (by decide))
 clear h h2 hc
 obtain ⟨W1, hW1, hw1, x0⟩ := hdQ w n A c l m B d k
 go_enter Tryz.func108, Tryz.ntmps108
 go_wp2_with fail
 rw [← hW1]
 clear hW1
 refine (Is_iv (H1.out.below hw1)).mono ?_
 rintro e wa ⟨rfl, hb⟩
 replace x0 := x0.below hb
 have hw1_ := bt hw1 hb
 clear hb hw1
 refine g0 ?_
 intros
 refine (Sign_iv (H2.out.below hw1_) rfl).mono ?_
 rintro e wb ⟨rfl, hb⟩
 replace x0 := x0.below hb
 have hw2_ := bt hw1_ hb
 clear hb hw1_
 rw [cmpI_pos HC.out.1]
 go_wp2_with fail
 go_ret
 exact ⟨rfl, hw2_⟩
theorem QIs_iv (h : IV w n A c l x) (h2 : IV w m B d k y) (hc : Can x y) :
  Calls Tryz.prog 35 #[.agg #[.bool n, .slice A l.length c, .bool m, .slice B k.length d]] w fun e w' => e = .returned (.bool true) ∧ Below w.heap.size w w' := by
 have H1 := Hi h
 have H2 := Hi h2
 have HC := Hi hc
 have HG : Hid (((Nat.gcd x.natAbs y.natAbs : Nat) : Int) = 1) := Hi (by rw [hc.2]; rfl)
 have HL1 : Hid (Lt 2100 1) := Hi (lt_le (lt_one (by decide)) (by decide))
 clear h h2 hc
 obtain ⟨W1, hW1, hw1, x0⟩ := hdQ w n A c l m B d k
 go_enter Tryz.func35, Tryz.ntmps35
 go_wp2_with fail
 rw [← hW1]
 clear hW1
 refine g0 ?_
 intros
 refine (sound_iv (H1.out.below hw1) (H2.out.below hw1) HC.out).mono ?_
 rintro e wa ⟨rfl, hb⟩
 replace x0 := x0.below hb
 have hw1_ := bt hw1 hb
 clear hb hw1
 refine g0 ?_
 intros
 refine (coprime_iv (H1.out.below hw1_) (H2.out.below hw1_) HC.out).mono ?_
 rintro e wb ⟨rfl, hb⟩
 replace x0 := x0.below hb
 exact mafd61
end Go.Proofs.YtgljdfblgpdaaaaGreatDoor
