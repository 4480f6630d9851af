/- The specification by value: Div by words, a remainder put right. -/
import Derived.Test.YtgljdfblgpdaaaaGreatDoorNumSpF
set_option linter.unusedSimpArgs false
set_option linter.unusedVariables false
namespace Go.Proofs.YtgljdfblgpdaaaaGreatDoor
open Go.RowKit Go.Shelf
theorem div_sign_q1 {nb : Bool} {la lb l : List Nat} (hp : 0 < val lb) (h : val l = val la / val lb + 1) (h0 : val la % val lb ≠ 0) : zI (true != nb) l = zI true la / zI nb lb := by
  have hs := (ediv_signs (val la) (val lb) hp).2.2.2 h0
  cases nb
  · show -(val l : Int) = -(val la : Int) / (val lb : Int)
    rw [h, hs.1]
  · show (val l : Int) = -(val la : Int) / -(val lb : Int)
    rw [h, hs.2.2.1]
theorem div_sign_r1 {nb : Bool} {la lb l : List Nat} (hp : 0 < val lb) (h : val l = val lb - val la % val lb) (h0 : val la % val lb ≠ 0) : zI false l = zI true la % zI nb lb := by
  have hs := (ediv_signs (val la) (val lb) hp).2.2.2 h0
  cases nb
  · show (val l : Int) = -(val la : Int) % (val lb : Int)
    rw [h, hs.2.1]
  · show (val l : Int) = -(val la : Int) % -(val lb : Int)
    rw [h, hs.2.2.2]

set_option maxRecDepth 100000 in
set_option maxHeartbeats 4000000 in
theorem RDiv_w_yn_n {w : World} {nb : Bool} {A B : Option Addr} {ca cb : Nat} {la lb : List Nat} {x y : Int} (ia : IV w true A ca la x) (ib : IV w nb B cb lb y) (hy : y ≠ 0) (hxa : x.natAbs < 4611686018427387904) (hxb : 4611686018427387904 ≤ y.natAbs) (h0 : val la % val lb ≠ 0) :
    Calls Tryz.prog 14 #[.agg #[.bool true, .slice A la.length ca], .agg #[.bool nb, .slice B lb.length cb]] w (RDIV w (x / y) (x % y)) := by
  have ea := ia.len
  have eb := ib.len
  have HXA := Lib.hid hxa
  have HXB := Lib.hid hxb
  have HVA : Hid (val la = x.natAbs) := Lib.hid (by rw [← ia.val]; unfold zI; split <;> simp)
  have HVB : Hid (val lb = y.natAbs) := Lib.hid (by rw [← ib.val]; unfold zI; split <;> simp)
  have hlb0 : lb.length ≠ 0 := fun h => hy ((by have h1 := ib.val; rw [List.eq_nil_of_length_eq_zero h, zI_nil] at h1; exact h1.symm))
  have hlz : ((lb.length : Int) == 0) = false := beq_eq_false_iff_ne.2 (by omega)
  have HLX := Lib.hid (lt_ediv (y := y) (lt_le (lt_val ia.ws ia.val) ia.len))
  have HLR := Lib.hid (lt_emod (x := x) hy (lt_le (lt_val ib.ws ib.val) ib.len))
  have hpb : 0 < val lb := val_pos (isB_top ib.can) (by omega)
  have HPB := Lib.hid hpb
  have HSG := Lib.hid (ediv_signs (val la) (val lb) hpb)
  have HXX : Hid (x = zI true la ∧ y = zI nb lb) := Lib.hid ⟨ia.val.symm, ib.val.symm⟩
  have HNE := Lib.hid h0
  clear hxa hxb hy hpb h0
  go_enter Tryz.func14, Tryz.ntmps14
  go_wp2_with fail
  refine (RIs_iv (ia.below (ba (ba (ba (ba (b0 _) _) _) _) _))).mono ?_
  rintro e w0 ⟨rfl, hb0⟩
  have hba0 : Box2 w0 w.heap.size (.bool true) (.slice A la.length ca) := ((((Box2.new w (.bool true) (.slice A la.length ca)).alloc _).alloc _).alloc _).below hb0
  have hbb0 : Box2 w0 (w.heap.size + 1) (.bool nb) (.slice B lb.length cb) := by
    have := (((Box2.new (w.alloc (.cells #[.bool true, .slice A la.length ca] 24)) (.bool nb) (.slice B lb.length cb)).alloc _).alloc _).below hb0
    simpa using this
  have hbq0 : Box2 w0 (w.heap.size + 1 + 1) (.bool false) (.slice none 0 0) := by
    have := ((Box2.new ((w.alloc (.cells #[.bool true, .slice A la.length ca] 24)).alloc (.cells #[.bool nb, .slice B lb.length cb] 24)) (.bool false) (.slice none 0 0)).alloc _).below hb0
    simpa using this
  have hbr0 : Box2 w0 (w.heap.size + 1 + 1 + 1) (.bool false) (.slice none 0 0) := by
    have := (Box2.new (((w.alloc (.cells #[.bool true, .slice A la.length ca] 24)).alloc (.cells #[.bool nb, .slice B lb.length cb] 24)).alloc (.cells #[.bool false, .slice none 0 0] 24)) (.bool false) (.slice none 0 0)).below hb0
    simpa using this
  have hK0 := bt (ba (ba (ba (ba (b0 w) _) _) _) _) hb0
  have y2 := hbb0.cell0
  have y3 := hbb0.cell1
  go_wp2_with fail
  refine (RIs_iv (ib.below hK0)).mono ?_
  rintro e w1 ⟨rfl, hb1⟩
  have hba := hba0.below hb1
  have hbb := hbb0.below hb1
  have hbq := hbq0.below hb1
  have hbr := hbr0.below hb1
  have hK := bt hK0 hb1
  clear hba0 hbb0 hbq0 hbr0 hK0 hb0 hb1 y2 y3
  have y0 := hba.cell0
  have y1 := hba.cell1
  have y2 := hbb.cell0
  have y3 := hbb.cell1
  have hwA := ia.ws.below hK
  have hwB := ib.ws.below hK
  go_wp2_with fail
  refine (Rnative_yes (ia.below hK) HXA.out).mono ?_
  rintro e w2 ⟨rfl, hb2⟩
  replace hba := hba.below hb2
  replace hbb := hbb.below hb2
  replace hbq := hbq.below hb2
  replace hbr := hbr.below hb2
  replace hK := bt hK hb2
  clear y0 y1 y2 y3 hwA hwB
  obtain ⟨w1, hw1⟩ : ∃ v, v = w2 := ⟨_, rfl⟩
  try rw [← hw1] at hb2
  rw [← hw1] at hba hbb hbq hbr hK ⊢
  clear hw1
  have y0 := hba.cell0
  have y1 := hba.cell1
  have y2 := hbb.cell0
  have y3 := hbb.cell1
  have hwA := ia.ws.below hK
  have hwB := ib.ws.below hK
  clear hb2
  go_wp2_with fail
  refine (Rnative_no (ib.below hK) HXB.out).mono ?_
  rintro e w2 ⟨rfl, hb2⟩
  replace hba := hba.below hb2
  replace hbb := hbb.below hb2
  replace hbq := hbq.below hb2
  replace hbr := hbr.below hb2
  replace hK := bt hK hb2
  clear y0 y1 y2 y3 hwA hwB
  obtain ⟨w1, hw1⟩ : ∃ v, v = w2 := ⟨_, rfl⟩
  try rw [← hw1] at hb2
  rw [← hw1] at hba hbb hbq hbr hK ⊢
  clear hw1
  have y0 := hba.cell0
  have y1 := hba.cell1
  have y2 := hbb.cell0
  have y3 := hbb.cell1
  have hwA := ia.ws.below hK
  have hwB := ib.ws.below hK
  clear hb2
  go_wp2_with fail
  refine (RdivWords_any A B ca cb la lb w1 (by omega) (by omega) ia.cap (isB_top ia.can) (isB_top ib.can) (by omega) hwA hwB).mono ?_
  rintro e w2 ⟨A6, c6, l6, A7, c7, l7, rfl, hc6, hc7, hs6, hs7, ht6, ht7, hv6, hv7, hb2⟩
  have hl6 := len_le ht6 hwA.1 (by rw [hv6]; exact Nat.div_le_self _ _)
  have hl7 := len_le ht7 hwB.1 (by rw [hv7]; exact Nat.le_of_lt (Nat.mod_lt _ HPB.out))
  have HV6 := Lib.hid hv6
  have HV7 := Lib.hid hv7
  have hba2 := hba.below hb2
  have hbb2 := hbb.below hb2
  have hbq2 := hbq.below hb2
  have hbr2 := hbr.below hb2
  have hK2 := bt hK hb2
  clear y0 y1 y2 y3 hv6 hv7
  have y0 := hba2.cell0
  have y1 := hba2.cell1
  have y2 := hbb2.cell0
  have y3 := hbb2.cell1
  have hl7i : (0 : Int) < (l7.length : Int) := by
    rcases Nat.eq_zero_or_pos l7.length with h | h
    · exfalso
      have h1 := (val_eq_zero ht7).2 h
      rw [HV7.out] at h1
      exact HNE.out h1
    · omega
  have hwB2 := hwB.below hb2
  have HL7 : Hid (val l7 ≤ val lb) := Lib.hid (by rw [HV7.out]; exact Nat.le_of_lt (Nat.mod_lt _ HPB.out))
  go_wp2_with fail
  go_region_held3 (fun W => W.cell? ⟨w.heap.size + 1, 1, none⟩ = some (.slice B lb.length cb)) (first | exact y3 | exact z3 | exact v3 | go_keep)
    (first
      | (go_at_call 92; refine (RaddWords_any A6 _ _ c6 1 1 l6 [1] _ rfl rfl (by omega) (by simp) (hs6.below (by repeat (first | exact b0 _ | refine ba ?_ _ | refine bd ?_ _ | refine bw ?_))) (by first | exact one_st _ | exact one_st2 _ (by simp) | exact (one_st _).below (by repeat (first | exact b0 _ | refine ba ?_ _ | refine bd ?_ _ | refine bw ?_)))).mono ?_; rintro e w3 ⟨A8, c8, l8, rfl, hc8, hs8, ht8, hv8, hb3⟩; have hb3 : Below w2.heap.size w2 w3 := bt (by repeat (first | exact b0 _ | refine ba ?_ _ | refine bd ?_ _ | refine bw ?_)) hb3; have hw8 := b0 w3; have HS8 := Lib.hid hs8; have HV8 := Lib.hid hv8; have HL8 := Lib.hid (len_sum ht8 hs6.1 (k := [1]) (by simp) hv8); clear hv8; have z3 := (hbb2.below hb3).cell1)
      | (go_at_call 93; refine (RsubWords_any B A7 _ cb _ c7 lb l7 _ rfl rfl (by omega) hl7 HL7.out (hwB2.below (bt hb3 (by first | exact b0 _ | exact bd (b0 _) _))) ((hs7.below hb3).below (by first | exact b0 _ | exact bd (b0 _) _))).mono ?_; rintro e w4 ⟨A9, c9, l9, rfl, hc9, hs9, ht9, hv9, hb4⟩; have hb38 := bt (bt hw8 (by first | exact b0 _ | exact bd (b0 _) _)) hb4; have hb4 := bt (bt hb3 (by first | exact b0 _ | exact bd (b0 _) _)) hb4; have HV9 := Lib.hid hv9; have HL9 := Lib.hid (len_le ht9 hwB.1 (by rw [hv9]; omega)); clear hv9; have v3 := (hbb2.below hb4).cell1))
  have hba4 := hba2.below hb4
  have hbb4 := hbb2.below hb4
  have hbq4 := hbq2.below hb4
  have hbr4 := hbr2.below hb4
  have hK4 := bt hK2 hb4
  have hs84 := HS8.out.below hb38
  have hl8 := HL8.out
  have hl9 := HL9.out
  rw [show ([1] : List Nat).length = 1 from rfl] at hl8
  clear y0 y1 y2 y3 z3 v3
  have y0 := hba4.cell0
  have y1 := hba4.cell1
  have y2 := hbb4.cell0
  have y3 := hbb4.cell1
  go_wp2_with fail
  refine (Rmade_any w4 w4 _ A8 l8.length c8 l8 rfl (by omega) hc8 hs84 (b0 _)).mono ?_
  rintro e w5 ⟨n1, A1, c1, l1, rfl, hc1, hs1, hB1, hz1, hb5⟩
  have HZ1 := Lib.hid hz1
  clear hz1 y0 y1 y2 y3
  go_wp2_with fail
  refine (Rmade_any w5 w5 false A9 l9.length c9 l9 rfl (by omega) hc9 (hs9.below hb5) (b0 _)).mono ?_
  rintro e w6 ⟨n2, A2, c2, l2, rfl, hc2, hs2, hB2, hz2, hb6⟩
  have hzq : zI n1 l1 = x / y := by
    rw [HZ1.out, HXX.out.1, HXX.out.2]
    have g := div_sign_q1 (nb := nb) HPB.out (show val l8 = val la / val lb + 1 by rw [HV8.out, HV6.out]; simp [val]) HNE.out
    revert g
    cases nb <;> exact id
  have hzr : zI n2 l2 = x % y := by
    rw [hz2, HXX.out.1, HXX.out.2]
    exact div_sign_r1 (nb := nb) HPB.out (show val l9 = val lb - val la % val lb by rw [HV9.out, HV7.out]) HNE.out
  have i1 : IV w5 n1 A1 c1 l1 (x / y) := .of hc1 hs1 hB1 hzq HLX.out
  have i2 : IV w6 n2 A2 c2 l2 (x % y) := .of hc2 hs2 hB2 hzr HLR.out
  have hbq5 := (hbq4.below hb5).below hb6
  have hbr5 := (hbr4.below hb5).below hb6
  have HK5 := Lib.hid (bt (bt hK4 hb5) hb6)
  clear hz2 hzq hzr hc1 hs1 hB1 hc2 hs2 hB2
  have HI1 := Lib.hid (i1.below hb6)
  have HI2 := Lib.hid i2
  have p0 := hbq5.cell0
  have p1 := hbq5.cell1
  have pf0 := hbq5.free 0
  have pf1 := hbq5.free 1
  have p2 := hbr5.cell0
  have p3 := hbr5.cell1
  have pf2 := hbr5.free 0
  have pf3 := hbr5.free 1
  obtain ⟨k0, k1, k2⟩ := hbq5.back (.bool n1) (.slice A1 l1.length c1)
  have sr2 := box2_far hbr5 (q := w.heap.size + 1 + 1) (by omega) (.bool n1) (.slice A1 l1.length c1)
  have p4 := sr2.cell0
  have p5 := sr2.cell1
  have pf4 := sr2.free 0
  have pf5 := sr2.free 1
  obtain ⟨m0, m1, m2⟩ := sr2.back (.bool n2) (.slice A2 l2.length c2)
  go_wp2_with fail
  refine bodyPost_ret (v := .tuple #[.agg #[.bool n1, .slice A1 l1.length c1], .agg #[.bool n2, .slice A2 l2.length c2], .int .i64 0]) (by simp [results, Tryz.results14, go_sem, k0, k2, m0, m2]) rfl ?_
  exact ⟨n1, A1, c1, l1, n2, A2, c2, l2, rfl, (HI1.out.st hbq5 _ _).st sr2 _ _, (HI2.out.st hbq5 _ _).st sr2 _ _, b2 (b2 HK5.out (by omega) _ _) (by omega) _ _⟩

set_option maxRecDepth 100000 in
set_option maxHeartbeats 4000000 in
theorem RDiv_w_ny_n {w : World} {nb : Bool} {A B : Option Addr} {ca cb : Nat} {la lb : List Nat} {x y : Int} (ia : IV w true A ca la x) (ib : IV w nb B cb lb y) (hy : y ≠ 0) (hxa : 4611686018427387904 ≤ x.natAbs) (hxb : y.natAbs < 4611686018427387904) (h0 : val la % val lb ≠ 0) :
    Calls Tryz.prog 14 #[.agg #[.bool true, .slice A la.length ca], .agg #[.bool nb, .slice B lb.length cb]] w (RDIV w (x / y) (x % y)) := by
  have ea := ia.len
  have eb := ib.len
  have HXA := Lib.hid hxa
  have HXB := Lib.hid hxb
  have HVA : Hid (val la = x.natAbs) := Lib.hid (by rw [← ia.val]; unfold zI; split <;> simp)
  have HVB : Hid (val lb = y.natAbs) := Lib.hid (by rw [← ib.val]; unfold zI; split <;> simp)
  have hlb0 : lb.length ≠ 0 := fun h => hy ((by have h1 := ib.val; rw [List.eq_nil_of_length_eq_zero h, zI_nil] at h1; exact h1.symm))
  have hlz : ((lb.length : Int) == 0) = false := beq_eq_false_iff_ne.2 (by omega)
  have HLX := Lib.hid (lt_ediv (y := y) (lt_le (lt_val ia.ws ia.val) ia.len))
  have HLR := Lib.hid (lt_emod (x := x) hy (lt_le (lt_val ib.ws ib.val) ib.len))
  have hpb : 0 < val lb := val_pos (isB_top ib.can) (by omega)
  have HPB := Lib.hid hpb
  have HSG := Lib.hid (ediv_signs (val la) (val lb) hpb)
  have HXX : Hid (x = zI true la ∧ y = zI nb lb) := Lib.hid ⟨ia.val.symm, ib.val.symm⟩
  have HNE := Lib.hid h0
  clear hxa hxb hy hpb h0
  go_enter Tryz.func14, Tryz.ntmps14
  go_wp2_with fail
  refine (RIs_iv (ia.below (ba (ba (ba (ba (b0 _) _) _) _) _))).mono ?_
  rintro e w0 ⟨rfl, hb0⟩
  have hba0 : Box2 w0 w.heap.size (.bool true) (.slice A la.length ca) := ((((Box2.new w (.bool true) (.slice A la.length ca)).alloc _).alloc _).alloc _).below hb0
  have hbb0 : Box2 w0 (w.heap.size + 1) (.bool nb) (.slice B lb.length cb) := by
    have := (((Box2.new (w.alloc (.cells #[.bool true, .slice A la.length ca] 24)) (.bool nb) (.slice B lb.length cb)).alloc _).alloc _).below hb0
    simpa using this
  have hbq0 : Box2 w0 (w.heap.size + 1 + 1) (.bool false) (.slice none 0 0) := by
    have := ((Box2.new ((w.alloc (.cells #[.bool true, .slice A la.length ca] 24)).alloc (.cells #[.bool nb, .slice B lb.length cb] 24)) (.bool false) (.slice none 0 0)).alloc _).below hb0
    simpa using this
  have hbr0 : Box2 w0 (w.heap.size + 1 + 1 + 1) (.bool false) (.slice none 0 0) := by
    have := (Box2.new (((w.alloc (.cells #[.bool true, .slice A la.length ca] 24)).alloc (.cells #[.bool nb, .slice B lb.length cb] 24)).alloc (.cells #[.bool false, .slice none 0 0] 24)) (.bool false) (.slice none 0 0)).below hb0
    simpa using this
  have hK0 := bt (ba (ba (ba (ba (b0 w) _) _) _) _) hb0
  have y2 := hbb0.cell0
  have y3 := hbb0.cell1
  go_wp2_with fail
  refine (RIs_iv (ib.below hK0)).mono ?_
  rintro e w1 ⟨rfl, hb1⟩
  have hba := hba0.below hb1
  have hbb := hbb0.below hb1
  have hbq := hbq0.below hb1
  have hbr := hbr0.below hb1
  have hK := bt hK0 hb1
  clear hba0 hbb0 hbq0 hbr0 hK0 hb0 hb1 y2 y3
  have y0 := hba.cell0
  have y1 := hba.cell1
  have y2 := hbb.cell0
  have y3 := hbb.cell1
  have hwA := ia.ws.below hK
  have hwB := ib.ws.below hK
  go_wp2_with fail
  refine (Rnative_no (ia.below hK) HXA.out).mono ?_
  rintro e w2 ⟨rfl, hb2⟩
  replace hba := hba.below hb2
  replace hbb := hbb.below hb2
  replace hbq := hbq.below hb2
  replace hbr := hbr.below hb2
  replace hK := bt hK hb2
  clear y0 y1 y2 y3 hwA hwB
  obtain ⟨w1, hw1⟩ : ∃ v, v = w2 := ⟨_, rfl⟩
  try rw [← hw1] at hb2
  rw [← hw1] at hba hbb hbq hbr hK ⊢
  clear hw1
  have y0 := hba.cell0
  have y1 := hba.cell1
  have y2 := hbb.cell0
  have y3 := hbb.cell1
  have hwA := ia.ws.below hK
  have hwB := ib.ws.below hK
  clear hb2
  go_wp2_with fail
  refine (Rnative_yes (ib.below hK) HXB.out).mono ?_
  rintro e w2 ⟨rfl, hb2⟩
  replace hba := hba.below hb2
  replace hbb := hbb.below hb2
  replace hbq := hbq.below hb2
  replace hbr := hbr.below hb2
  replace hK := bt hK hb2
  clear y0 y1 y2 y3 hwA hwB
  obtain ⟨w1, hw1⟩ : ∃ v, v = w2 := ⟨_, rfl⟩
  try rw [← hw1] at hb2
  rw [← hw1] at hba hbb hbq hbr hK ⊢
  clear hw1
  have y0 := hba.cell0
  have y1 := hba.cell1
  have y2 := hbb.cell0
  have y3 := hbb.cell1
  have hwA := ia.ws.below hK
  have hwB := ib.ws.below hK
  clear hb2
  go_wp2_with fail
  refine (RdivWords_any A B ca cb la lb w1 (by omega) (by omega) ia.cap (isB_top ia.can) (isB_top ib.can) (by omega) hwA hwB).mono ?_
  rintro e w2 ⟨A6, c6, l6, A7, c7, l7, rfl, hc6, hc7, hs6, hs7, ht6, ht7, hv6, hv7, hb2⟩
  have hl6 := len_le ht6 hwA.1 (by rw [hv6]; exact Nat.div_le_self _ _)
  have hl7 := len_le ht7 hwB.1 (by rw [hv7]; exact Nat.le_of_lt (Nat.mod_lt _ HPB.out))
  have HV6 := Lib.hid hv6
  have HV7 := Lib.hid hv7
  have hba2 := hba.below hb2
  have hbb2 := hbb.below hb2
  have hbq2 := hbq.below hb2
  have hbr2 := hbr.below hb2
  have hK2 := bt hK hb2
  clear y0 y1 y2 y3 hv6 hv7
  have y0 := hba2.cell0
  have y1 := hba2.cell1
  have y2 := hbb2.cell0
  have y3 := hbb2.cell1
  have hl7i : (0 : Int) < (l7.length : Int) := by
    rcases Nat.eq_zero_or_pos l7.length with h | h
    · exfalso
      have h1 := (val_eq_zero ht7).2 h
      rw [HV7.out] at h1
      exact HNE.out h1
    · omega
  have hwB2 := hwB.below hb2
  have HL7 : Hid (val l7 ≤ val lb) := Lib.hid (by rw [HV7.out]; exact Nat.le_of_lt (Nat.mod_lt _ HPB.out))
  go_wp2_with fail
  go_region_held3 (fun W => W.cell? ⟨w.heap.size + 1, 1, none⟩ = some (.slice B lb.length cb)) (first | exact y3 | exact z3 | exact v3 | go_keep)
    (first
      | (go_at_call 92; refine (RaddWords_any A6 _ _ c6 1 1 l6 [1] _ rfl rfl (by omega) (by simp) (hs6.below (by repeat (first | exact b0 _ | refine ba ?_ _ | refine bd ?_ _ | refine bw ?_))) (by first | exact one_st _ | exact one_st2 _ (by simp) | exact (one_st _).below (by repeat (first | exact b0 _ | refine ba ?_ _ | refine bd ?_ _ | refine bw ?_)))).mono ?_; rintro e w3 ⟨A8, c8, l8, rfl, hc8, hs8, ht8, hv8, hb3⟩; have hb3 : Below w2.heap.size w2 w3 := bt (by repeat (first | exact b0 _ | refine ba ?_ _ | refine bd ?_ _ | refine bw ?_)) hb3; have hw8 := b0 w3; have HS8 := Lib.hid hs8; have HV8 := Lib.hid hv8; have HL8 := Lib.hid (len_sum ht8 hs6.1 (k := [1]) (by simp) hv8); clear hv8; have z3 := (hbb2.below hb3).cell1)
      | (go_at_call 93; refine (RsubWords_any B A7 _ cb _ c7 lb l7 _ rfl rfl (by omega) hl7 HL7.out (hwB2.below (bt hb3 (by first | exact b0 _ | exact bd (b0 _) _))) ((hs7.below hb3).below (by first | exact b0 _ | exact bd (b0 _) _))).mono ?_; rintro e w4 ⟨A9, c9, l9, rfl, hc9, hs9, ht9, hv9, hb4⟩; have hb38 := bt (bt hw8 (by first | exact b0 _ | exact bd (b0 _) _)) hb4; have hb4 := bt (bt hb3 (by first | exact b0 _ | exact bd (b0 _) _)) hb4; have HV9 := Lib.hid hv9; have HL9 := Lib.hid (len_le ht9 hwB.1 (by rw [hv9]; omega)); clear hv9; have v3 := (hbb2.below hb4).cell1))
  have hba4 := hba2.below hb4
  have hbb4 := hbb2.below hb4
  have hbq4 := hbq2.below hb4
  have hbr4 := hbr2.below hb4
  have hK4 := bt hK2 hb4
  have hs84 := HS8.out.below hb38
  have hl8 := HL8.out
  have hl9 := HL9.out
  rw [show ([1] : List Nat).length = 1 from rfl] at hl8
  clear y0 y1 y2 y3 z3 v3
  have y0 := hba4.cell0
  have y1 := hba4.cell1
  have y2 := hbb4.cell0
  have y3 := hbb4.cell1
  go_wp2_with fail
  refine (Rmade_any w4 w4 _ A8 l8.length c8 l8 rfl (by omega) hc8 hs84 (b0 _)).mono ?_
  rintro e w5 ⟨n1, A1, c1, l1, rfl, hc1, hs1, hB1, hz1, hb5⟩
  have HZ1 := Lib.hid hz1
  clear hz1 y0 y1 y2 y3
  go_wp2_with fail
  refine (Rmade_any w5 w5 false A9 l9.length c9 l9 rfl (by omega) hc9 (hs9.below hb5) (b0 _)).mono ?_
  rintro e w6 ⟨n2, A2, c2, l2, rfl, hc2, hs2, hB2, hz2, hb6⟩
  have hzq : zI n1 l1 = x / y := by
    rw [HZ1.out, HXX.out.1, HXX.out.2]
    have g := div_sign_q1 (nb := nb) HPB.out (show val l8 = val la / val lb + 1 by rw [HV8.out, HV6.out]; simp [val]) HNE.out
    revert g
    cases nb <;> exact id
  have hzr : zI n2 l2 = x % y := by
    rw [hz2, HXX.out.1, HXX.out.2]
    exact div_sign_r1 (nb := nb) HPB.out (show val l9 = val lb - val la % val lb by rw [HV9.out, HV7.out]) HNE.out
  have i1 : IV w5 n1 A1 c1 l1 (x / y) := .of hc1 hs1 hB1 hzq HLX.out
  have i2 : IV w6 n2 A2 c2 l2 (x % y) := .of hc2 hs2 hB2 hzr HLR.out
  have hbq5 := (hbq4.below hb5).below hb6
  have hbr5 := (hbr4.below hb5).below hb6
  have HK5 := Lib.hid (bt (bt hK4 hb5) hb6)
  clear hz2 hzq hzr hc1 hs1 hB1 hc2 hs2 hB2
  have HI1 := Lib.hid (i1.below hb6)
  have HI2 := Lib.hid i2
  have p0 := hbq5.cell0
  have p1 := hbq5.cell1
  have pf0 := hbq5.free 0
  have pf1 := hbq5.free 1
  have p2 := hbr5.cell0
  have p3 := hbr5.cell1
  have pf2 := hbr5.free 0
  have pf3 := hbr5.free 1
  obtain ⟨k0, k1, k2⟩ := hbq5.back (.bool n1) (.slice A1 l1.length c1)
  have sr2 := box2_far hbr5 (q := w.heap.size + 1 + 1) (by omega) (.bool n1) (.slice A1 l1.length c1)
  have p4 := sr2.cell0
  have p5 := sr2.cell1
  have pf4 := sr2.free 0
  have pf5 := sr2.free 1
  obtain ⟨m0, m1, m2⟩ := sr2.back (.bool n2) (.slice A2 l2.length c2)
  go_wp2_with fail
  refine bodyPost_ret (v := .tuple #[.agg #[.bool n1, .slice A1 l1.length c1], .agg #[.bool n2, .slice A2 l2.length c2], .int .i64 0]) (by simp [results, Tryz.results14, go_sem, k0, k2, m0, m2]) rfl ?_
  exact ⟨n1, A1, c1, l1, n2, A2, c2, l2, rfl, (HI1.out.st hbq5 _ _).st sr2 _ _, (HI2.out.st hbq5 _ _).st sr2 _ _, b2 (b2 HK5.out (by omega) _ _) (by omega) _ _⟩

set_option maxRecDepth 100000 in
set_option maxHeartbeats 4000000 in
theorem RDiv_w_nn_n {w : World} {nb : Bool} {A B : Option Addr} {ca cb : Nat} {la lb : List Nat} {x y : Int} (ia : IV w true A ca la x) (ib : IV w nb B cb lb y) (hy : y ≠ 0) (hxa : 4611686018427387904 ≤ x.natAbs) (hxb : 4611686018427387904 ≤ y.natAbs) (h0 : val la % val lb ≠ 0) :
    Calls Tryz.prog 14 #[.agg #[.bool true, .slice A la.length ca], .agg #[.bool nb, .slice B lb.length cb]] w (RDIV w (x / y) (x % y)) := by
  have ea := ia.len
  have eb := ib.len
  have HXA := Lib.hid hxa
  have HXB := Lib.hid hxb
  have HVA : Hid (val la = x.natAbs) := Lib.hid (by rw [← ia.val]; unfold zI; split <;> simp)
  have HVB : Hid (val lb = y.natAbs) := Lib.hid (by rw [← ib.val]; unfold zI; split <;> simp)
  have hlb0 : lb.length ≠ 0 := fun h => hy ((by have h1 := ib.val; rw [List.eq_nil_of_length_eq_zero h, zI_nil] at h1; exact h1.symm))
  have hlz : ((lb.length : Int) == 0) = false := beq_eq_false_iff_ne.2 (by omega)
  have HLX := Lib.hid (lt_ediv (y := y) (lt_le (lt_val ia.ws ia.val) ia.len))
  have HLR := Lib.hid (lt_emod (x := x) hy (lt_le (lt_val ib.ws ib.val) ib.len))
  have hpb : 0 < val lb := val_pos (isB_top ib.can) (by omega)
  have HPB := Lib.hid hpb
  have HSG := Lib.hid (ediv_signs (val la) (val lb) hpb)
  have HXX : Hid (x = zI true la ∧ y = zI nb lb) := Lib.hid ⟨ia.val.symm, ib.val.symm⟩
  have HNE := Lib.hid h0
  clear hxa hxb hy hpb h0
  go_enter Tryz.func14, Tryz.ntmps14
  go_wp2_with fail
  refine (RIs_iv (ia.below (ba (ba (ba (ba (b0 _) _) _) _) _))).mono ?_
  rintro e w0 ⟨rfl, hb0⟩
  have hba0 : Box2 w0 w.heap.size (.bool true) (.slice A la.length ca) := ((((Box2.new w (.bool true) (.slice A la.length ca)).alloc _).alloc _).alloc _).below hb0
  have hbb0 : Box2 w0 (w.heap.size + 1) (.bool nb) (.slice B lb.length cb) := by
    have := (((Box2.new (w.alloc (.cells #[.bool true, .slice A la.length ca] 24)) (.bool nb) (.slice B lb.length cb)).alloc _).alloc _).below hb0
    simpa using this
  have hbq0 : Box2 w0 (w.heap.size + 1 + 1) (.bool false) (.slice none 0 0) := by
    have := ((Box2.new ((w.alloc (.cells #[.bool true, .slice A la.length ca] 24)).alloc (.cells #[.bool nb, .slice B lb.length cb] 24)) (.bool false) (.slice none 0 0)).alloc _).below hb0
    simpa using this
  have hbr0 : Box2 w0 (w.heap.size + 1 + 1 + 1) (.bool false) (.slice none 0 0) := by
    have := (Box2.new (((w.alloc (.cells #[.bool true, .slice A la.length ca] 24)).alloc (.cells #[.bool nb, .slice B lb.length cb] 24)).alloc (.cells #[.bool false, .slice none 0 0] 24)) (.bool false) (.slice none 0 0)).below hb0
    simpa using this
  have hK0 := bt (ba (ba (ba (ba (b0 w) _) _) _) _) hb0
  have y2 := hbb0.cell0
  have y3 := hbb0.cell1
  go_wp2_with fail
  refine (RIs_iv (ib.below hK0)).mono ?_
  rintro e w1 ⟨rfl, hb1⟩
  have hba := hba0.below hb1
  have hbb := hbb0.below hb1
  have hbq := hbq0.below hb1
  have hbr := hbr0.below hb1
  have hK := bt hK0 hb1
  clear hba0 hbb0 hbq0 hbr0 hK0 hb0 hb1 y2 y3
  have y0 := hba.cell0
  have y1 := hba.cell1
  have y2 := hbb.cell0
  have y3 := hbb.cell1
  have hwA := ia.ws.below hK
  have hwB := ib.ws.below hK
  go_wp2_with fail
  refine (Rnative_no (ia.below hK) HXA.out).mono ?_
  rintro e w2 ⟨rfl, hb2⟩
  replace hba := hba.below hb2
  replace hbb := hbb.below hb2
  replace hbq := hbq.below hb2
  replace hbr := hbr.below hb2
  replace hK := bt hK hb2
  clear y0 y1 y2 y3 hwA hwB
  obtain ⟨w1, hw1⟩ : ∃ v, v = w2 := ⟨_, rfl⟩
  try rw [← hw1] at hb2
  rw [← hw1] at hba hbb hbq hbr hK ⊢
  clear hw1
  have y0 := hba.cell0
  have y1 := hba.cell1
  have y2 := hbb.cell0
  have y3 := hbb.cell1
  have hwA := ia.ws.below hK
  have hwB := ib.ws.below hK
  clear hb2
  go_wp2_with fail
  refine (Rnative_no (ib.below hK) HXB.out).mono ?_
  rintro e w2 ⟨rfl, hb2⟩
  replace hba := hba.below hb2
  replace hbb := hbb.below hb2
  replace hbq := hbq.below hb2
  replace hbr := hbr.below hb2
  replace hK := bt hK hb2
  clear y0 y1 y2 y3 hwA hwB
  obtain ⟨w1, hw1⟩ : ∃ v, v = w2 := ⟨_, rfl⟩
  try rw [← hw1] at hb2
  rw [← hw1] at hba hbb hbq hbr hK ⊢
  clear hw1
  have y0 := hba.cell0
  have y1 := hba.cell1
  have y2 := hbb.cell0
  have y3 := hbb.cell1
  have hwA := ia.ws.below hK
  have hwB := ib.ws.below hK
  clear hb2
  go_wp2_with fail
  refine (RdivWords_any A B ca cb la lb w1 (by omega) (by omega) ia.cap (isB_top ia.can) (isB_top ib.can) (by omega) hwA hwB).mono ?_
  rintro e w2 ⟨A6, c6, l6, A7, c7, l7, rfl, hc6, hc7, hs6, hs7, ht6, ht7, hv6, hv7, hb2⟩
  have hl6 := len_le ht6 hwA.1 (by rw [hv6]; exact Nat.div_le_self _ _)
  have hl7 := len_le ht7 hwB.1 (by rw [hv7]; exact Nat.le_of_lt (Nat.mod_lt _ HPB.out))
  have HV6 := Lib.hid hv6
  have HV7 := Lib.hid hv7
  have hba2 := hba.below hb2
  have hbb2 := hbb.below hb2
  have hbq2 := hbq.below hb2
  have hbr2 := hbr.below hb2
  have hK2 := bt hK hb2
  clear y0 y1 y2 y3 hv6 hv7
  have y0 := hba2.cell0
  have y1 := hba2.cell1
  have y2 := hbb2.cell0
  have y3 := hbb2.cell1
  have hl7i : (0 : Int) < (l7.length : Int) := by
    rcases Nat.eq_zero_or_pos l7.length with h | h
    · exfalso
      have h1 := (val_eq_zero ht7).2 h
      rw [HV7.out] at h1
      exact HNE.out h1
    · omega
  have hwB2 := hwB.below hb2
  have HL7 : Hid (val l7 ≤ val lb) := Lib.hid (by rw [HV7.out]; exact Nat.le_of_lt (Nat.mod_lt _ HPB.out))
  go_wp2_with fail
  go_region_held3 (fun W => W.cell? ⟨w.heap.size + 1, 1, none⟩ = some (.slice B lb.length cb)) (first | exact y3 | exact z3 | exact v3 | go_keep)
    (first
      | (go_at_call 92; refine (RaddWords_any A6 _ _ c6 1 1 l6 [1] _ rfl rfl (by omega) (by simp) (hs6.below (by repeat (first | exact b0 _ | refine ba ?_ _ | refine bd ?_ _ | refine bw ?_))) (by first | exact one_st _ | exact one_st2 _ (by simp) | exact (one_st _).below (by repeat (first | exact b0 _ | refine ba ?_ _ | refine bd ?_ _ | refine bw ?_)))).mono ?_; rintro e w3 ⟨A8, c8, l8, rfl, hc8, hs8, ht8, hv8, hb3⟩; have hb3 : Below w2.heap.size w2 w3 := bt (by repeat (first | exact b0 _ | refine ba ?_ _ | refine bd ?_ _ | refine bw ?_)) hb3; have hw8 := b0 w3; have HS8 := Lib.hid hs8; have HV8 := Lib.hid hv8; have HL8 := Lib.hid (len_sum ht8 hs6.1 (k := [1]) (by simp) hv8); clear hv8; have z3 := (hbb2.below hb3).cell1)
      | (go_at_call 93; refine (RsubWords_any B A7 _ cb _ c7 lb l7 _ rfl rfl (by omega) hl7 HL7.out (hwB2.below (bt hb3 (by first | exact b0 _ | exact bd (b0 _) _))) ((hs7.below hb3).below (by first | exact b0 _ | exact bd (b0 _) _))).mono ?_; rintro e w4 ⟨A9, c9, l9, rfl, hc9, hs9, ht9, hv9, hb4⟩; have hb38 := bt (bt hw8 (by first | exact b0 _ | exact bd (b0 _) _)) hb4; have hb4 := bt (bt hb3 (by first | exact b0 _ | exact bd (b0 _) _)) hb4; have HV9 := Lib.hid hv9; have HL9 := Lib.hid (len_le ht9 hwB.1 (by rw [hv9]; omega)); clear hv9; have v3 := (hbb2.below hb4).cell1))
  have hba4 := hba2.below hb4
  have hbb4 := hbb2.below hb4
  have hbq4 := hbq2.below hb4
  have hbr4 := hbr2.below hb4
  have hK4 := bt hK2 hb4
  have hs84 := HS8.out.below hb38
  have hl8 := HL8.out
  have hl9 := HL9.out
  rw [show ([1] : List Nat).length = 1 from rfl] at hl8
  clear y0 y1 y2 y3 z3 v3
  have y0 := hba4.cell0
  have y1 := hba4.cell1
  have y2 := hbb4.cell0
  have y3 := hbb4.cell1
  go_wp2_with fail
  refine (Rmade_any w4 w4 _ A8 l8.length c8 l8 rfl (by omega) hc8 hs84 (b0 _)).mono ?_
  rintro e w5 ⟨n1, A1, c1, l1, rfl, hc1, hs1, hB1, hz1, hb5⟩
  have HZ1 := Lib.hid hz1
  clear hz1 y0 y1 y2 y3
  go_wp2_with fail
  refine (Rmade_any w5 w5 false A9 l9.length c9 l9 rfl (by omega) hc9 (hs9.below hb5) (b0 _)).mono ?_
  rintro e w6 ⟨n2, A2, c2, l2, rfl, hc2, hs2, hB2, hz2, hb6⟩
  have hzq : zI n1 l1 = x / y := by
    rw [HZ1.out, HXX.out.1, HXX.out.2]
    have g := div_sign_q1 (nb := nb) HPB.out (show val l8 = val la / val lb + 1 by rw [HV8.out, HV6.out]; simp [val]) HNE.out
    revert g
    cases nb <;> exact id
  have hzr : zI n2 l2 = x % y := by
    rw [hz2, HXX.out.1, HXX.out.2]
    exact div_sign_r1 (nb := nb) HPB.out (show val l9 = val lb - val la % val lb by rw [HV9.out, HV7.out]) HNE.out
  have i1 : IV w5 n1 A1 c1 l1 (x / y) := .of hc1 hs1 hB1 hzq HLX.out
  have i2 : IV w6 n2 A2 c2 l2 (x % y) := .of hc2 hs2 hB2 hzr HLR.out
  have hbq5 := (hbq4.below hb5).below hb6
  have hbr5 := (hbr4.below hb5).below hb6
  have HK5 := Lib.hid (bt (bt hK4 hb5) hb6)
  clear hz2 hzq hzr hc1 hs1 hB1 hc2 hs2 hB2
  have HI1 := Lib.hid (i1.below hb6)
  have HI2 := Lib.hid i2
  have p0 := hbq5.cell0
  have p1 := hbq5.cell1
  have pf0 := hbq5.free 0
  have pf1 := hbq5.free 1
  have p2 := hbr5.cell0
  have p3 := hbr5.cell1
  have pf2 := hbr5.free 0
  have pf3 := hbr5.free 1
  obtain ⟨k0, k1, k2⟩ := hbq5.back (.bool n1) (.slice A1 l1.length c1)
  have sr2 := box2_far hbr5 (q := w.heap.size + 1 + 1) (by omega) (.bool n1) (.slice A1 l1.length c1)
  have p4 := sr2.cell0
  have p5 := sr2.cell1
  have pf4 := sr2.free 0
  have pf5 := sr2.free 1
  obtain ⟨m0, m1, m2⟩ := sr2.back (.bool n2) (.slice A2 l2.length c2)
  go_wp2_with fail
  refine bodyPost_ret (v := .tuple #[.agg #[.bool n1, .slice A1 l1.length c1], .agg #[.bool n2, .slice A2 l2.length c2], .int .i64 0]) (by simp [results, Tryz.results14, go_sem, k0, k2, m0, m2]) rfl ?_
  exact ⟨n1, A1, c1, l1, n2, A2, c2, l2, rfl, (HI1.out.st hbq5 _ _).st sr2 _ _, (HI2.out.st hbq5 _ _).st sr2 _ _, b2 (b2 HK5.out (by omega) _ _) (by omega) _ _⟩

theorem RDiv_iv {w : World} {na nb : Bool} {A B : Option Addr} {ca cb : Nat} {la lb : List Nat} {x y : Int} (ia : IV w na A ca la x) (ib : IV w nb B cb lb y) (hy : y ≠ 0) :
    Calls Tryz.prog 14 #[.agg #[.bool na, .slice A la.length ca], .agg #[.bool nb, .slice B lb.length cb]] w (RDIV w (x / y) (x % y)) := by
  rcases Nat.lt_or_ge x.natAbs 4611686018427387904 with hxa | hxa <;> rcases Nat.lt_or_ge y.natAbs 4611686018427387904 with hxb | hxb
  · rcases Int.lt_or_le (x.tmod y) 0 with ht | ht
    · rcases Int.lt_or_gt_of_ne hy with hp | hp
      · exact RDiv_negn ia ib hy hxa hxb ht hp
      · exact RDiv_negp ia ib hy hxa hxb ht hp
    · exact RDiv_pos ia ib hy hxa hxb ht
  · cases na
    · exact RDiv_w_yn_f ia ib hy hxa hxb
    · by_cases h0 : val la % val lb = 0
      · exact RDiv_w_yn_t ia ib hy hxa hxb h0
      · exact RDiv_w_yn_n ia ib hy hxa hxb h0
  · cases na
    · exact RDiv_w_ny_f ia ib hy hxa hxb
    · by_cases h0 : val la % val lb = 0
      · exact RDiv_w_ny_t ia ib hy hxa hxb h0
      · exact RDiv_w_ny_n ia ib hy hxa hxb h0
  · cases na
    · exact RDiv_w_nn_f ia ib hy hxa hxb
    · by_cases h0 : val la % val lb = 0
      · exact RDiv_w_nn_t ia ib hy hxa hxb h0
      · exact RDiv_w_nn_n ia ib hy hxa hxb h0
end Go.Proofs.YtgljdfblgpdaaaaGreatDoor
