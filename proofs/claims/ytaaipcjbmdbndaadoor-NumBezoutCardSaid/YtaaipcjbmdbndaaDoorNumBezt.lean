/- NumBezout: the walk. -/
import Derived.Test.YtaaipcjbmdbndaaDoorNumBezI
import Derived.Deep.RegionHeld3
import Derived.Deep.RegionLaw
import Derived.Deep.DeepCutAuto
import Derived.Outline
set_option linter.unusedSimpArgs false
set_option linter.unusedVariables false
namespace Go.Proofs.YtaaipcjbmdbndaaDoor
open Go.RowKit

/-- Where Bezout's results lie. -/
def BezAt (w : World) (x y : Int) (s t r e : Value) (W : World) : Prop :=
  ∃ u v p1 p2 p3 n1 A1 c1 l1 n2 A2 c2 l2 n3 A3 c3 l3, s = .pointer (some ⟨p1, 0, none⟩) ∧ t = .pointer (some ⟨p2, 0, none⟩) ∧ r = .pointer (some ⟨p3, 0, none⟩) ∧ e = .int .i64 0 ∧ BF x y u v ∧
    IntAt W p1 n1 A1 c1 l1 ((Nat.gcd x.natAbs y.natAbs : Nat) : Int) ∧ IntAt W p2 n2 A2 c2 l2 u ∧ IntAt W p3 n3 A3 c3 l3 v ∧ Below w.heap.size w W
theorem gcd_mul (x y z : Int) : ((Nat.gcd (x * z).natAbs (y * z).natAbs : Nat) : Int) = ((Nat.gcd x.natAbs y.natAbs : Nat) : Int) * ((z.natAbs : Nat) : Int) := by
  rw [Int.natAbs_mul, Int.natAbs_mul, Nat.gcd_mul_right, Int.natCast_mul]
theorem gcd_mod (x y : Int) : x % ((Nat.gcd x.natAbs y.natAbs : Nat) : Int) = 0 ∧ ((y.natAbs : Nat) : Int) % ((Nat.gcd x.natAbs y.natAbs : Nat) : Int) = 0 := by
  constructor
  · exact Int.emod_eq_zero_of_dvd (Int.dvd_natAbs.1 (Int.natCast_dvd_natCast.2 (Nat.gcd_dvd_left _ _)))
  · exact Int.emod_eq_zero_of_dvd (Int.natCast_dvd_natCast.2 (Nat.gcd_dvd_right _ _))
theorem cmpI_nn {x : Int} (h : 0 ≤ x) : ¬ (cmpI x 0 < 0) := by unfold cmpI; split <;> (try split) <;> omega
theorem cmpI_nz {x : Int} (h : x ≠ 0) : cmpI x 0 ≠ 0 := by unfold cmpI; split <;> (try split) <;> omega

set_option maxRecDepth 100000 in
set_option maxHeartbeats 40000000 in
theorem NumBezout_look (w : World) (na nb nc : Bool) (A B C : Option Addr) (ca cb cc : Nat) (l k m : List Nat) (hl : WS w A l) (hk : WS w B k) (hm : WS w C m) (hl1 : l.length ≤ 40) (hk1 : k.length ≤ 40) (hm1 : m.length ≤ 40)
    (hca : l.length ≤ ca) (hcb : k.length ≤ cb) (hcc : m.length ≤ cc) (ha : isB na l = true) (hb : isB nb k = true) (hc : isB nc m = true) (hT : Tens w) :
    Calls Tryd.prog 6 #[.agg #[.bool na, .slice A l.length ca], .agg #[.bool nb, .slice B k.length cb], .agg #[.bool nc, .slice C m.length cc]] w fun e w' => e = .returned (.bool true) ∧ Below w.heap.size w w' := by
  have HTn := Lib.hid hT
  have HA := Lib.hid ha
  have HB := Lib.hid hb
  have HC := Lib.hid hc
  have hsh := fun W => short_wide 40 na nb nc A B C l.length k.length m.length ca cb cc W (by omega) true (by simp [hl1, hk1, hm1])
  have HSH := Lib.hid hsh
  clear hT ha hb hc hsh
  go_enter Tryd.func6, Tryd.ntmps6
  go_wp2_with fail
  obtain ⟨W1, hW1⟩ : ∃ W, W = ((w.alloc (bx na A l.length ca)).alloc (bx nb B k.length cb)).alloc (bx nc C m.length cc) := ⟨_, rfl⟩
  have Y0 : Box2 W1 w.heap.size (.bool na) (.slice A l.length ca) := by rw [hW1]; exact ((Box2.new w _ _).alloc _).alloc _
  have Y1 : Box2 W1 (w.heap.size + 1) (.bool nb) (.slice B k.length cb) := by
    rw [hW1]
    have h := (Box2.new (w.alloc (bx na A l.length ca)) (.bool nb) (.slice B k.length cb)).alloc (bx nc C m.length cc)
    rwa [World.size_alloc] at h
  have Y2 : Box2 W1 (w.heap.size + 1 + 1) (.bool nc) (.slice C m.length cc) := by
    rw [hW1]
    have h := Box2.new ((w.alloc (bx na A l.length ca)).alloc (bx nb B k.length cb)) (.bool nc) (.slice C m.length cc)
    rwa [World.size_alloc, World.size_alloc] at h
  have K1 : Below w.heap.size w W1 := by rw [hW1]; exact ba (ba (ba (b0 _) _) _) _
  change Calls _ _ _ (((w.alloc (bx na A l.length ca)).alloc (bx nb B k.length cb)).alloc (bx nc C m.length cc)) _
  rw [← hW1]
  clear hW1
  refine (HSH.out W1).mono ?_
  rintro e w2 ⟨rfl, hb2⟩
  have K2 : Below w.heap.size w w2 := bt K1 hb2
  have y0 := (Y0.below hb2).cell0
  have y1 := (Y0.below hb2).cell1
  go_wp2_with fail
  refine (RIs_any na A l.length ca l w2 rfl (by omega) (hl.below K2)).mono ?_
  rintro e w3 ⟨rfl, hb3⟩
  rw [HA.out]
  have K3 := bt K2 hb3
  clear y0 y1
  have y0 := ((Y1.below hb2).below hb3).cell0
  have y1 := ((Y1.below hb2).below hb3).cell1
  go_wp2_with fail
  refine (RIs_any nb B k.length cb k w3 rfl (by omega) (hk.below K3)).mono ?_
  rintro e w4 ⟨rfl, hb4⟩
  rw [HB.out]
  have K4 := bt K3 hb4
  clear y0 y1
  have y0 := (((Y2.below hb2).below hb3).below hb4).cell0
  have y1 := (((Y2.below hb2).below hb3).below hb4).cell1
  go_wp2_with fail
  refine (RIs_any nc C m.length cc m w4 rfl (by omega) (hm.below K4)).mono ?_
  rintro e w5 ⟨rfl, hb5⟩
  rw [HC.out]
  have K5 := bt K4 hb5
  have hb15 := bt (bt (bt hb2 hb3) hb4) hb5
  have Z0 := Y0.below hb15
  have Z1 := Y1.below hb15
  have Z2 := Y2.below hb15
  clear y0 y1 Y0 Y1 Y2 K1 K2 K3 K4 hb2 hb3 hb4 hb5 hb15 HSH
  obtain ⟨za, hza⟩ : ∃ z, z = zI na l := ⟨_, rfl⟩
  obtain ⟨zb, hzb⟩ : ∃ z, z = zI nb k := ⟨_, rfl⟩
  obtain ⟨zc, hzc⟩ : ∃ z, z = zI nc m := ⟨_, rfl⟩
  have JA : IV w5 na A ca l za := ⟨hca, hl.below K5, HA.out, hza.symm, by omega⟩
  have JB : IV w5 nb B cb k zb := ⟨hcb, hk.below K5, HB.out, hzb.symm, by omega⟩
  have JC : IV w5 nc C cc m zc := ⟨hcc, hm.below K5, HC.out, hzc.symm, by omega⟩
  have TA : Lt 40 za := lt_le (lt_val hl hza.symm) hl1
  have TB : Lt 40 zb := lt_le (lt_val hk hzb.symm) hk1
  have TC : Lt 40 zc := lt_le (lt_val hm hzc.symm) hm1
  have TT := HTn.out.below K5
  clear hl1 hk1 hm1 hca hcb hcc HA HB HC hl hk hm HTn hza hzb hzc
  have IA : IntAt w5 w.heap.size na A ca l za := IntAt.box Z0 JA
  have IB : IntAt w5 (w.heap.size + 1) nb B cb k zb := IntAt.box Z1 JB
  have IC : IntAt w5 (w.heap.size + 1 + 1) nc C cc m zc := IntAt.box Z2 JC
  have sz5 := Z2.lt
  have a0 := IA.c0
  have a1 := IA.c1
  have b0' := IB.c0
  have b1' := IB.c1
  have HIA := Lib.hid IA
  have HIB := Lib.hid IB
  have HIC := Lib.hid IC
  have HJA := Lib.hid JA
  have HJB := Lib.hid JB
  have HJC := Lib.hid JC
  have HTA := Lib.hid TA
  have HTB := Lib.hid TB
  have HTC := Lib.hid TC
  have HTT := Lib.hid TT
  have HK := Lib.hid K5
  clear IA IB IC JA JB JC TA TB TC TT Z0 Z1 Z2 K5
  go_upto_region 3 with fail
  go_cut [7, 8, 9, 10] (fun s t r e wx => BezAt w5 za zb s t r e wx)
  case first =>
    as_aux_lemma =>
    go_wp2_with fail
    refine (Bez_iv HJA.out HJB.out (lt_le HTA.out (by decide)) (lt_le HTB.out (by decide))).mono ?_
    rintro e w6 ⟨u, v, n1, A1, c1, l1, n2, A2, c2, l2, n3, A3, c3, l3, rfl, hF, I1, I2, I3, hb6⟩
    have HF := Lib.hid hF
    have HI1 := Lib.hid I1
    have HI2 := Lib.hid I2
    have HI3 := Lib.hid I3
    clear hF I1 I2 I3
    go_wp2_with fail
    go_meet
    exact ⟨u, v, w6.heap.size, w6.heap.size + 1, w6.heap.size + 1 + 1, n1, A1, c1, l1, n2, A2, c2, l2, n3, A3, c3, l3, rfl, rfl, rfl, rfl, HF.out, ((IntAt.new HI1.out.cap HI1.out.ws HI1.out.can HI1.out.val).alloc _).alloc _, (IntAt.new' HI2.out.cap HI2.out.can HI2.out.val (HI2.out.ws.below (ba (b0 _) _)) (by simp)).alloc _, IntAt.new' HI3.out.cap HI3.out.can HI3.out.val (HI3.out.ws.below (ba (ba (b0 _) _) _)) (by simp), ba (ba (ba hb6 _) _) _⟩
  case rest =>
  obtain ⟨u, v, p1, p2, p3, n1, A1, c1, l1, n2, A2, c2, l2, n3, A3, c3, l3, rfl, rfl, rfl, rfl, hF, I1, I2, I3, hb8⟩ := hcut
  obtain ⟨w8, hw8⟩ : ∃ v, v = wc := ⟨_, rfl⟩
  rw [← hw8] at I1 I2 I3 hb8 ⊢
  clear hw8 wc a0 a1 b0' b1'
  have HTG := Lib.hid (lt_gcd HTA.out HTB.out)
  have hgp : (0 : Int) ≤ ((Nat.gcd za.natAbs zb.natAbs : Nat) : Int) := by omega
  obtain ⟨g, hg⟩ : ∃ g, g = ((Nat.gcd za.natAbs zb.natAbs : Nat) : Int) := ⟨_, rfl⟩
  have HGE := Lib.hid hg
  rw [← hg] at I1 HTG hgp
  have HF := Lib.hid hF
  have VG := Lib.hid (I1.iv (lt_le HTG.out (by decide)))
  have VU := Lib.hid (I2.iv (lt_le hF.ul (by decide)))
  have VV := Lib.hid (I3.iv (lt_le hF.vl (by decide)))
  have HIG := Lib.hid I1
  have HIU := Lib.hid I2
  have HIV := Lib.hid I3
  clear I1 I2 I3 hF hg
  have xHJA := Lib.hid (HJA.out.below hb8)
  clear HJA
  have HJA := xHJA
  clear xHJA
  have xHJB := Lib.hid (HJB.out.below hb8)
  clear HJB
  have HJB := xHJB
  clear xHJB
  have xHJC := Lib.hid (HJC.out.below hb8)
  clear HJC
  have HJC := xHJC
  clear xHJC
  have xHIA := Lib.hid (HIA.out.below hb8)
  clear HIA
  have HIA := xHIA
  clear xHIA
  have xHIB := Lib.hid (HIB.out.below hb8)
  clear HIB
  have HIB := xHIB
  clear xHIB
  have xHIC := Lib.hid (HIC.out.below hb8)
  clear HIC
  have HIC := xHIC
  clear xHIC
  have xHTT := Lib.hid (HTT.out.below hb8)
  clear HTT
  have HTT := xHTT
  clear xHTT
  have xHK := Lib.hid (bt HK.out hb8)
  clear HK
  have HK := xHK
  clear xHK
  clear hb8
  go_upto_region 4 with fail
  go_cut [72] (fun s wx => s = .bool false ∧ Below w8.heap.size w8 wx)
  case first =>
    as_aux_lemma =>
    have S5 : ∀ W, Below w8.heap.size w8 W → W.cell? ⟨w.heap.size, 0, none⟩ = some (.bool na) ∧ W.cell? ⟨w.heap.size, 1, none⟩ = some (.slice A l.length ca) ∧ W.cell? ⟨w.heap.size + 1, 0, none⟩ = some (.bool nb) ∧ W.cell? ⟨w.heap.size + 1, 1, none⟩ = some (.slice B k.length cb) ∧ W.cell? ⟨p1, 0, none⟩ = some (.bool n1) ∧ W.cell? ⟨p1, 1, none⟩ = some (.slice A1 l1.length c1) ∧ W.cell? ⟨p2, 0, none⟩ = some (.bool n2) ∧ W.cell? ⟨p2, 1, none⟩ = some (.slice A2 l2.length c2) ∧ W.cell? ⟨p3, 0, none⟩ = some (.bool n3) ∧ W.cell? ⟨p3, 1, none⟩ = some (.slice A3 l3.length c3) := fun W hb =>
      ⟨cell_below HIA.out.c0 hb, cell_below HIA.out.c1 hb, cell_below HIB.out.c0 hb, cell_below HIB.out.c1 hb, cell_below HIG.out.c0 hb, cell_below HIG.out.c1 hb, cell_below HIU.out.c0 hb, cell_below HIU.out.c1 hb, cell_below HIV.out.c0 hb, cell_below HIV.out.c1 hb⟩
    have HS5 := Lib.hid S5
    clear S5
    obtain ⟨s, hs⟩ : ∃ s, s = cmpI g 0 := ⟨_, rfl⟩
    have hs0' : ¬ (s < 0) := by rw [hs]; exact cmpI_nn hgp
    have hs0 : decide (s < 0) = false := decide_eq_false hs0'
    have HSV := Lib.hid hs
    have tokM : True := trivial
    have tokS : True := trivial
    clear hs hgp
    go_region_held3 (fun W => W.cell? ⟨w.heap.size, 0, none⟩ = some (.bool na) ∧ W.cell? ⟨w.heap.size, 1, none⟩ = some (.slice A l.length ca) ∧ W.cell? ⟨w.heap.size + 1, 0, none⟩ = some (.bool nb) ∧ W.cell? ⟨w.heap.size + 1, 1, none⟩ = some (.slice B k.length cb) ∧ W.cell? ⟨p1, 0, none⟩ = some (.bool n1) ∧ W.cell? ⟨p1, 1, none⟩ = some (.slice A1 l1.length c1) ∧ W.cell? ⟨p2, 0, none⟩ = some (.bool n2) ∧ W.cell? ⟨p2, 1, none⟩ = some (.slice A2 l2.length c2) ∧ W.cell? ⟨p3, 0, none⟩ = some (.bool n3) ∧ W.cell? ⟨p3, 1, none⟩ = some (.slice A3 l3.length c3))
      (first | (refine HS5.out _ ?_; (first | assumption | exact bd (b0 _) _ | exact b0 _)))
      (first
      | (go_at_call 27; refine (Gcd_iv (HJA.out.below (bd (b0 _) _)) (HJB.out.below (bd (b0 _) _)) HGE.out.symm (lt_le HTG.out (by decide))).mono ?_; rintro e w20 ⟨n20, A20, c20, l20, rfl, hv20, hb20⟩; have R20 := Lib.hid hv20; clear hv20; have hK20 := bdn hb20)
      | (go_at_call 13; clear tokS; refine (Same_iv (VG.out.below hK20) R20.out).mono ?_; rintro e w21 ⟨rfl, hb21⟩; have hK21 := bt hK20 hb21)
      | (go_at_call 18; clear tokM; refine (Mul_iv (VU.out.below hK21) (HJA.out.below hK21) (z := u * za) rfl (lt_le (lt_mul HF.out.ul HTA.out) (by decide))).mono ?_; rintro e w22 ⟨n22, A22, c22, l22, rfl, hv22, hb22⟩; have R22 := Lib.hid hv22; clear hv22; have hK22 := bt hK21 hb22)
      | (go_at_call 18; refine (Mul_iv (VV.out.below hK22) (HJB.out.below hK22) (z := v * zb) rfl (lt_le (lt_mul HF.out.vl HTB.out) (by decide))).mono ?_; rintro e w23 ⟨n23, A23, c23, l23, rfl, hv23, hb23⟩; have R23 := Lib.hid hv23; clear hv23; have hK23 := bt hK22 hb23)
      | (go_at_call 17; refine (Add_iv (R22.out.below hb23) R23.out (z := g) (HF.out.comb.trans HGE.out.symm) (lt_le HTG.out (by decide))).mono ?_; rintro e w24 ⟨n24, A24, c24, l24, rfl, hv24, hb24⟩; have R24 := Lib.hid hv24; clear hv24; have hK24 := bt hK23 hb24)
      | (go_at_call 13; refine (Same_iv (VG.out.below hK24) R24.out).mono ?_; rintro e w25 ⟨rfl, hb25⟩; have hK25 := bt hK24 hb25)
      | (go_at_call 23; refine (Sign_iv (VG.out.below hK25) HSV.out.symm).mono ?_; rintro e w26 ⟨rfl, hb26⟩; have hK26 := bt hK25 hb26))
    go_wp2_with fail
    go_meet
    exact ⟨rfl, hK26⟩
  case rest =>
  obtain ⟨rfl, hb9⟩ := hcut
  obtain ⟨w9, hw9⟩ : ∃ v, v = wc := ⟨_, rfl⟩
  rw [← hw9] at hb9 ⊢
  clear hw9 wc
  have xHJA := Lib.hid (HJA.out.below hb9)
  clear HJA
  have HJA := xHJA
  clear xHJA
  have xHJB := Lib.hid (HJB.out.below hb9)
  clear HJB
  have HJB := xHJB
  clear xHJB
  have xHJC := Lib.hid (HJC.out.below hb9)
  clear HJC
  have HJC := xHJC
  clear xHJC
  have xHIA := Lib.hid (HIA.out.below hb9)
  clear HIA
  have HIA := xHIA
  clear xHIA
  have xHIB := Lib.hid (HIB.out.below hb9)
  clear HIB
  have HIB := xHIB
  clear xHIB
  have xHIC := Lib.hid (HIC.out.below hb9)
  clear HIC
  have HIC := xHIC
  clear xHIC
  have xHTT := Lib.hid (HTT.out.below hb9)
  clear HTT
  have HTT := xHTT
  clear xHTT
  have xHK := Lib.hid (bt HK.out hb9)
  clear HK
  have HK := xHK
  clear xHK
  have xVG := Lib.hid (VG.out.below hb9)
  clear VG
  have VG := xVG
  clear xVG
  have xVU := Lib.hid (VU.out.below hb9)
  clear VU
  have VU := xVU
  clear xVU
  have xVV := Lib.hid (VV.out.below hb9)
  clear VV
  have VV := xVV
  clear xVV
  have xHIG := Lib.hid (HIG.out.below hb9)
  clear HIG
  have HIG := xHIG
  clear xHIG
  have xHIU := Lib.hid (HIU.out.below hb9)
  clear HIU
  have HIU := xHIU
  clear xHIU
  have xHIV := Lib.hid (HIV.out.below hb9)
  clear HIV
  have HIV := xHIV
  clear xHIV
  clear hb9
  go_upto_region 6 with fail
  go_cut [85] (fun s wx => s = .bool false ∧ Below w9.heap.size w9 wx)
  case first =>
    as_aux_lemma =>
    have S5 : ∀ W, Below w9.heap.size w9 W → W.cell? ⟨w.heap.size, 0, none⟩ = some (.bool na) ∧ W.cell? ⟨w.heap.size, 1, none⟩ = some (.slice A l.length ca) ∧ W.cell? ⟨w.heap.size + 1, 0, none⟩ = some (.bool nb) ∧ W.cell? ⟨w.heap.size + 1, 1, none⟩ = some (.slice B k.length cb) ∧ W.cell? ⟨w.heap.size + 1 + 1, 0, none⟩ = some (.bool nc) ∧ W.cell? ⟨w.heap.size + 1 + 1, 1, none⟩ = some (.slice C m.length cc) ∧ W.cell? ⟨p1, 0, none⟩ = some (.bool n1) ∧ W.cell? ⟨p1, 1, none⟩ = some (.slice A1 l1.length c1) := fun W hb =>
      ⟨cell_below HIA.out.c0 hb, cell_below HIA.out.c1 hb, cell_below HIB.out.c0 hb, cell_below HIB.out.c1 hb, cell_below HIC.out.c0 hb, cell_below HIC.out.c1 hb, cell_below HIG.out.c0 hb, cell_below HIG.out.c1 hb⟩
    have HS5 := Lib.hid S5
    clear S5
    have tokM1 : True := trivial
    have tokM2 : True := trivial
    go_region_held3 (fun W => W.cell? ⟨w.heap.size, 0, none⟩ = some (.bool na) ∧ W.cell? ⟨w.heap.size, 1, none⟩ = some (.slice A l.length ca) ∧ W.cell? ⟨w.heap.size + 1, 0, none⟩ = some (.bool nb) ∧ W.cell? ⟨w.heap.size + 1, 1, none⟩ = some (.slice B k.length cb) ∧ W.cell? ⟨w.heap.size + 1 + 1, 0, none⟩ = some (.bool nc) ∧ W.cell? ⟨w.heap.size + 1 + 1, 1, none⟩ = some (.slice C m.length cc) ∧ W.cell? ⟨p1, 0, none⟩ = some (.bool n1) ∧ W.cell? ⟨p1, 1, none⟩ = some (.slice A1 l1.length c1))
      (first | (refine HS5.out _ ?_; (first | assumption | exact bd (b0 _) _ | exact b0 _)))
      (first
      | (go_at_call 18; clear tokM1; refine (Mul_iv (HJA.out.below (bd (b0 _) _)) (HJC.out.below (bd (b0 _) _)) (z := za * zc) rfl (lt_le (lt_mul HTA.out HTC.out) (by decide))).mono ?_; rintro e w20 ⟨n20, A20, c20, l20, rfl, hv20, hb20⟩; have R20 := Lib.hid hv20; clear hv20; have hK20 := bdn hb20)
      | (go_at_call 18; clear tokM2; refine (Mul_iv (HJB.out.below hK20) (HJC.out.below hK20) (z := zb * zc) rfl (lt_le (lt_mul HTB.out HTC.out) (by decide))).mono ?_; rintro e w21 ⟨n21, A21, c21, l21, rfl, hv21, hb21⟩; have R21 := Lib.hid hv21; clear hv21; have hK21 := bt hK20 hb21)
      | (go_at_call 27; refine (Gcd_iv (R20.out.below hb21) R21.out (z := g * ((zc.natAbs : Nat) : Int)) (by rw [HGE.out]; exact gcd_mul za zb zc) (lt_le (lt_mul HTG.out (show Lt 40 ((zc.natAbs : Nat) : Int) from HTC.out)) (by decide))).mono ?_; rintro e w22 ⟨n22, A22, c22, l22, rfl, hv22, hb22⟩; have R22 := Lib.hid hv22; clear hv22; have hK22 := bt hK21 hb22)
      | (go_at_call 25; refine (Abs_iv (HJC.out.below hK22) rfl (lt_le (show Lt 40 ((zc.natAbs : Nat) : Int) from HTC.out) (by decide))).mono ?_; rintro e w23 ⟨n23, A23, c23, l23, rfl, hv23, hb23⟩; have R23 := Lib.hid hv23; clear hv23; have hK23 := bt hK22 hb23)
      | (go_at_call 18; refine (Mul_iv (VG.out.below hK23) R23.out (z := g * ((zc.natAbs : Nat) : Int)) rfl (lt_le (lt_mul HTG.out (show Lt 40 ((zc.natAbs : Nat) : Int) from HTC.out)) (by decide))).mono ?_; rintro e w24 ⟨n24, A24, c24, l24, rfl, hv24, hb24⟩; have R24 := Lib.hid hv24; clear hv24; have hK24 := bt hK23 hb24)
      | (go_at_call 13; refine (Same_iv (R22.out.below (bt hb23 hb24)) R24.out).mono ?_; rintro e w25 ⟨rfl, hb25⟩; have hK25 := bt hK24 hb25))
    go_wp2_with fail
    go_meet
    exact ⟨rfl, hK25⟩
  case rest =>
  obtain ⟨rfl, hb10⟩ := hcut
  obtain ⟨w10, hw10⟩ : ∃ v, v = wc := ⟨_, rfl⟩
  rw [← hw10] at hb10 ⊢
  clear hw10 wc
  have xHJA := Lib.hid (HJA.out.below hb10)
  clear HJA
  have HJA := xHJA
  clear xHJA
  have xHJB := Lib.hid (HJB.out.below hb10)
  clear HJB
  have HJB := xHJB
  clear xHJB
  have xHJC := Lib.hid (HJC.out.below hb10)
  clear HJC
  have HJC := xHJC
  clear xHJC
  have xHIA := Lib.hid (HIA.out.below hb10)
  clear HIA
  have HIA := xHIA
  clear xHIA
  have xHIB := Lib.hid (HIB.out.below hb10)
  clear HIB
  have HIB := xHIB
  clear xHIB
  have xHIC := Lib.hid (HIC.out.below hb10)
  clear HIC
  have HIC := xHIC
  clear xHIC
  have xHTT := Lib.hid (HTT.out.below hb10)
  clear HTT
  have HTT := xHTT
  clear xHTT
  have xHK := Lib.hid (bt HK.out hb10)
  clear HK
  have HK := xHK
  clear xHK
  have xVG := Lib.hid (VG.out.below hb10)
  clear VG
  have VG := xVG
  clear xVG
  have xVU := Lib.hid (VU.out.below hb10)
  clear VU
  have VU := xVU
  clear xVU
  have xVV := Lib.hid (VV.out.below hb10)
  clear VV
  have VV := xVV
  clear xVV
  have xHIG := Lib.hid (HIG.out.below hb10)
  clear HIG
  have HIG := xHIG
  clear xHIG
  have xHIU := Lib.hid (HIU.out.below hb10)
  clear HIU
  have HIU := xHIU
  clear xHIU
  have xHIV := Lib.hid (HIV.out.below hb10)
  clear HIV
  have HIV := xHIV
  clear xHIV
  clear hb10
  have g0 := HIG.out.c0
  have g1 := HIG.out.c1
  by_cases hz : g = 0
  · have hgz : Nat.gcd za.natAbs zb.natAbs = 0 := by
      have := HGE.out
      omega
    have ha0 : za = 0 := Int.natAbs_eq_zero.1 (Nat.eq_zero_of_gcd_eq_zero_left hgz)
    have hb0 : zb = 0 := Int.natAbs_eq_zero.1 (Nat.eq_zero_of_gcd_eq_zero_right hgz)
    have HV := Lib.hid (show cmpI g 0 = 0 by rw [hz]; rfl)
    have HVA := Lib.hid (show cmpI za 0 = 0 by rw [ha0]; rfl)
    have HVB := Lib.hid (show cmpI zb 0 = 0 by rw [hb0]; rfl)
    clear hz hgz ha0 hb0
    go_wp2_with fail
    refine (Sign_iv VG.out HV.out).mono ?_
    rintro e w11 ⟨rfl, hb11⟩
    go_wp2_with fail
    refine (sane_any w11 (HTT.out.below hb11)).mono ?_
    rintro e w12 ⟨rfl, hb12⟩
    have hK12 := bt hb11 hb12
    clear g0 g1
    have a0 := (HIA.out.below hK12).c0
    have a1 := (HIA.out.below hK12).c1
    go_wp2_with fail
    refine (Sign_iv (HJA.out.below hK12) HVA.out).mono ?_
    rintro e w13 ⟨rfl, hb13⟩
    have hK13 := bt hK12 hb13
    clear a0 a1
    have a0 := (HIB.out.below hK13).c0
    have a1 := (HIB.out.below hK13).c1
    go_wp2_with fail
    refine (Sign_iv (HJB.out.below hK13) HVB.out).mono ?_
    rintro e w14 ⟨rfl, hb14⟩
    go_wp2_with fail
    go_ret
    exact ⟨rfl, bt HK.out (bt hK13 hb14)⟩
  · obtain ⟨v0, hv0⟩ : ∃ v0, v0 = cmpI g 0 := ⟨_, rfl⟩
    have hv1 : ((v0 : Int) == 0) = false := by rw [hv0]; exact beq_eq_false_iff_ne.2 (cmpI_nz hz)
    have HV := Lib.hid hv0.symm
    have HZ := Lib.hid hz
    clear hv0 hz
    go_wp2_with fail
    refine (Sign_iv VG.out HV.out).mono ?_
    rintro e w11 ⟨rfl, hb11⟩
    clear g0 g1
    have xHJA := Lib.hid (HJA.out.below hb11)
    clear HJA
    have HJA := xHJA
    clear xHJA
    have xHJB := Lib.hid (HJB.out.below hb11)
    clear HJB
    have HJB := xHJB
    clear xHJB
    have xHJC := Lib.hid (HJC.out.below hb11)
    clear HJC
    have HJC := xHJC
    clear xHJC
    have xHIA := Lib.hid (HIA.out.below hb11)
    clear HIA
    have HIA := xHIA
    clear xHIA
    have xHIB := Lib.hid (HIB.out.below hb11)
    clear HIB
    have HIB := xHIB
    clear xHIB
    have xHIC := Lib.hid (HIC.out.below hb11)
    clear HIC
    have HIC := xHIC
    clear xHIC
    have xHTT := Lib.hid (HTT.out.below hb11)
    clear HTT
    have HTT := xHTT
    clear xHTT
    have xHK := Lib.hid (bt HK.out hb11)
    clear HK
    have HK := xHK
    clear xHK
    have xVG := Lib.hid (VG.out.below hb11)
    clear VG
    have VG := xVG
    clear xVG
    have xVU := Lib.hid (VU.out.below hb11)
    clear VU
    have VU := xVU
    clear xVU
    have xVV := Lib.hid (VV.out.below hb11)
    clear VV
    have VV := xVV
    clear xVV
    have xHIG := Lib.hid (HIG.out.below hb11)
    clear HIG
    have HIG := xHIG
    clear xHIG
    have xHIU := Lib.hid (HIU.out.below hb11)
    clear HIU
    have HIU := xHIU
    clear xHIU
    have xHIV := Lib.hid (HIV.out.below hb11)
    clear HIV
    have HIV := xHIV
    clear xHIV
    clear hb11 HV
    have hm1 := gcd_mod za zb
    rw [← HGE.out] at hm1
    have HM := Lib.hid hm1
    clear hm1
    have a0 := HIA.out.c0
    have a1 := HIA.out.c1
    have d0 := HIG.out.c0
    have d1 := HIG.out.c1
    go_upto_region 10 with fail
    clear hv1
    go_cut [11, 12, 13] (fun s t e wx => DivAt w11 (za / g) 0 0 s t e wx)
    case first =>
      as_aux_lemma =>
      go_wp2_with fail
      refine (Div_iv HJA.out VG.out HZ.out (q := za / g) rfl HM.out.1 (lt_le (lt_ediv HTA.out) (by decide)) (lt_zero _)).mono ?_
      rintro e w12 ⟨n4, A4, c4, l4, n5, A5, c5, l5, rfl, I1, I2, hb6⟩
      have HI1 := Lib.hid I1
      have HI2 := Lib.hid I2
      clear I1 I2
      go_wp2_with fail
      go_meet
      exact ⟨w12.heap.size, w12.heap.size + 1, n4, A4, c4, l4, n5, A5, c5, l5, rfl, rfl, rfl, (IntAt.new HI1.out.cap HI1.out.ws HI1.out.can HI1.out.val).alloc _, IntAt.new' HI2.out.cap HI2.out.can HI2.out.val (HI2.out.ws.below (ba (b0 _) _)) (by simp), ba (ba hb6 _) _⟩
    case rest =>
    obtain ⟨p4, p5, n4, A4, c4, l4, n5, A5, c5, l5, rfl, rfl, rfl, I4, I5, hb12⟩ := hcut
    obtain ⟨w12, hw12⟩ : ∃ v, v = wc := ⟨_, rfl⟩
    rw [← hw12] at I4 I5 hb12 ⊢
    clear hw12 wc a0 a1 d0 d1 I4
    have VR := Lib.hid (I5.iv (lt_zero _))
    have HIR := Lib.hid I5
    clear I5
    have xHJA := Lib.hid (HJA.out.below hb12)
    clear HJA
    have HJA := xHJA
    clear xHJA
    have xHJB := Lib.hid (HJB.out.below hb12)
    clear HJB
    have HJB := xHJB
    clear xHJB
    have xHJC := Lib.hid (HJC.out.below hb12)
    clear HJC
    have HJC := xHJC
    clear xHJC
    have xHIA := Lib.hid (HIA.out.below hb12)
    clear HIA
    have HIA := xHIA
    clear xHIA
    have xHIB := Lib.hid (HIB.out.below hb12)
    clear HIB
    have HIB := xHIB
    clear xHIB
    have xHIC := Lib.hid (HIC.out.below hb12)
    clear HIC
    have HIC := xHIC
    clear xHIC
    have xHTT := Lib.hid (HTT.out.below hb12)
    clear HTT
    have HTT := xHTT
    clear xHTT
    have xHK := Lib.hid (bt HK.out hb12)
    clear HK
    have HK := xHK
    clear xHK
    have xVG := Lib.hid (VG.out.below hb12)
    clear VG
    have VG := xVG
    clear xVG
    have xVU := Lib.hid (VU.out.below hb12)
    clear VU
    have VU := xVU
    clear xVU
    have xVV := Lib.hid (VV.out.below hb12)
    clear VV
    have VV := xVV
    clear xVV
    have xHIG := Lib.hid (HIG.out.below hb12)
    clear HIG
    have HIG := xHIG
    clear xHIG
    have xHIU := Lib.hid (HIU.out.below hb12)
    clear HIU
    have HIU := xHIU
    clear xHIU
    have xHIV := Lib.hid (HIV.out.below hb12)
    clear HIV
    have HIV := xHIV
    clear xHIV
    clear hb12
    go_upto_region 11 with fail
    go_cut [14, 15, 16] (fun s t e wx => DivAt w12 (((zb.natAbs : Nat) : Int) / g) 0 0 s t e wx)
    case first =>
      as_aux_lemma =>
      have S5 : ∀ W, Below w12.heap.size w12 W → W.cell? ⟨w.heap.size + 1, 0, none⟩ = some (.bool nb) ∧ W.cell? ⟨w.heap.size + 1, 1, none⟩ = some (.slice B k.length cb) ∧ W.cell? ⟨p1, 0, none⟩ = some (.bool n1) ∧ W.cell? ⟨p1, 1, none⟩ = some (.slice A1 l1.length c1) := fun W hb =>
        ⟨cell_below HIB.out.c0 hb, cell_below HIB.out.c1 hb, cell_below HIG.out.c0 hb, cell_below HIG.out.c1 hb⟩
      have HS5 := Lib.hid S5
      clear S5
      go_region_held3 (fun W => W.cell? ⟨w.heap.size + 1, 0, none⟩ = some (.bool nb) ∧ W.cell? ⟨w.heap.size + 1, 1, none⟩ = some (.slice B k.length cb) ∧ W.cell? ⟨p1, 0, none⟩ = some (.bool n1) ∧ W.cell? ⟨p1, 1, none⟩ = some (.slice A1 l1.length c1))
        ((refine HS5.out _ ?_; (repeat (first | assumption | exact b0 _ | apply ba | apply bd | apply bw | (refine bs ?_ (by first | exact Nat.le_refl _ | (dsimp only; omega) | omega) _)))))
        (first
        | (go_at_call 25; refine (Abs_iv (HJB.out.below (by repeat (first | assumption | exact b0 _ | apply ba | apply bd | apply bw))) rfl (lt_le (show Lt 40 ((zb.natAbs : Nat) : Int) from HTB.out) (by decide))).mono ?_; rintro e w21 ⟨n21, A21, c21, l21, rfl, hv21, hb21⟩; obtain ⟨hcc21, hff21⟩ := bcell hb21; have R21 := Lib.hid hv21; clear hv21; have hK21 : Below w12.heap.size w12 w21 := bt (by repeat (first | assumption | exact b0 _ | apply ba | apply bd | apply bw)) hb21; have sz21 := hK21.size; have sy21 := hb21.size; (try simp at sy21); (try have sw21 : w12.heap.size < w21.heap.size := by omega); (try have sv21 : w12.heap.size + 1 < w21.heap.size := by omega))
        | (go_at_call 24; refine (Div_ow (R21.out.below (by repeat (first | assumption | exact b0 _ | apply ba | apply bd | apply bw))) (VG.out.below (bt hK21 (by repeat (first | assumption | exact b0 _ | apply ba | apply bd | apply bw)))) HZ.out (q := ((zb.natAbs : Nat) : Int) / g) rfl HM.out.2).mono ?_; rintro e w22 ⟨n22, A22, c22, l22, n23, A23, c23, l23, rfl, hv22, hv23, hb22⟩; have g6 := fun (p : Nat) h => hv22.2.1.off_ (g := p) h; have g7 := fun (p : Nat) h => hv23.2.1.off_ (g := p) h; have HG6 := Lib.hid g6; have HG7 := Lib.hid g7; clear g6 g7; have R22 := Lib.hid hv22; have R23 := Lib.hid hv23; clear hv22 hv23; have hb212 : Below w21.heap.size w21 w22 := bt (by repeat (first | assumption | exact b0 _ | apply ba | apply bd | apply bw)) hb22; have hK22 := bt hK21 hb212; obtain ⟨hcc22, hff22⟩ := bcell hb22; have sz22 := hK22.size; have sx22 := hb212.size; have sy22 := hb22.size; (try simp at sy22); (try have sw22 : w21.heap.size < w22.heap.size := by omega); (try have sv22 : w21.heap.size + 1 < w22.heap.size := by omega); (try have sp22 : w12.heap.size < w22.heap.size := by omega); (try have sq22 : w12.heap.size + 1 < w22.heap.size := by omega)))
      all_goals (go_wp2_with fail; go_meet)
      all_goals
        have hc6 := R22.out.1
        have hB6 := R22.out.2.2.1
        have hz6 := R22.out.2.2.2
        have hw6 := R22.out.2.1.ws
        have hc7 := R23.out.1
        have hB7 := R23.out.2.2.1
        have hz7 := R23.out.2.2.2
        have hw7 := R23.out.2.1.ws
        have g6 := HG6.out
        have g7 := HG7.out
        have G6 := fun (p : Nat) (h : w22.heap.size ≤ p) => R22.out.2.1.ws.off h
        have G7 := fun (p : Nat) (h : w22.heap.size ≤ p) => R23.out.2.1.ws.off h
        refine ⟨_, _, n22, A22, c22, l22, n23, A23, c23, l23, rfl, rfl, rfl, ?_, ?_, ?_⟩
        · repeat (first
            | (with_reducible refine IntAt.new' hc6 hB6 hz6 ?_ ?_)
            | (with_reducible refine IntAt.store' hc6 hB6 hz6 ?_ ?_ ?_)
            | (with_reducible refine IntAt.alloc ?_ _)
            | (with_reducible refine IntAt.far ?_ ?_ ?_ _ _))
          all_goals (repeat (first
            | with_reducible exact hw6
            | (with_reducible refine WS.below ?_ (ba (b0 _) _))
            | (with_reducible refine WS.two ?_ ?_ _ _)
            | (focus ((with_reducible refine Box2.new' ?_); (simp; done)))
            | (with_reducible refine Box2.alloc ?_ _)
            | (with_reducible refine Box2.far ?_ ?_ _ _)
            | (with_reducible refine Box2.below ?_ hb22)
            | (with_reducible refine Box2.below ?_ hb21)
            | exact G6 _ (by omega)
            | exact g6 _ (by first | (simp; done) | (simp; omega) | omega)
            | omega
            | (focus (simp; done))
            | (with_reducible refine Box2.drew' ?_)))
        · repeat (first
            | (with_reducible refine IntAt.new' hc7 hB7 hz7 ?_ ?_)
            | (with_reducible refine IntAt.store' hc7 hB7 hz7 ?_ ?_ ?_)
            | (with_reducible refine IntAt.alloc ?_ _)
            | (with_reducible refine IntAt.far ?_ ?_ ?_ _ _))
          all_goals (repeat (first
            | with_reducible exact hw7
            | (with_reducible refine WS.below ?_ (ba (b0 _) _))
            | (with_reducible refine WS.two ?_ ?_ _ _)
            | (focus ((with_reducible refine Box2.new' ?_); (simp; done)))
            | (with_reducible refine Box2.alloc ?_ _)
            | (with_reducible refine Box2.far ?_ ?_ _ _)
            | (with_reducible refine Box2.below ?_ hb22)
            | (with_reducible refine Box2.below ?_ hb21)
            | exact G7 _ (by omega)
            | exact g7 _ (by first | (simp; done) | (simp; omega) | omega)
            | omega
            | (focus (simp; done))
            | (with_reducible refine Box2.drew' ?_)))
        · repeat (first | exact hK22 | (with_reducible refine ba ?_ _) | (with_reducible refine bs ?_ ?_ _))
          all_goals (first | exact Nat.le_refl _ | (dsimp only; omega) | omega)
    case rest =>
    obtain ⟨p6, p7, n6, A6, c6, l6, n7, A7, c7, l7, rfl, rfl, rfl, I6, I7, hb13⟩ := hcut
    obtain ⟨w13, hw13⟩ : ∃ v, v = wc := ⟨_, rfl⟩
    rw [← hw13] at I6 I7 hb13 ⊢
    clear hw13 wc
    have hql : Lt 300 (((zb.natAbs : Nat) : Int) / g) := lt_le (lt_ediv (show Lt 40 ((zb.natAbs : Nat) : Int) from HTB.out)) (by decide)
    have VM := Lib.hid (I6.iv hql)
    have HIM := Lib.hid I6
    have VS := Lib.hid (I7.iv (lt_zero _))
    have HIS := Lib.hid I7
    clear I6 I7 hql
    have xHJA := Lib.hid (HJA.out.below hb13)
    clear HJA
    have HJA := xHJA
    clear xHJA
    have xHJB := Lib.hid (HJB.out.below hb13)
    clear HJB
    have HJB := xHJB
    clear xHJB
    have xHJC := Lib.hid (HJC.out.below hb13)
    clear HJC
    have HJC := xHJC
    clear xHJC
    have xHIA := Lib.hid (HIA.out.below hb13)
    clear HIA
    have HIA := xHIA
    clear xHIA
    have xHIB := Lib.hid (HIB.out.below hb13)
    clear HIB
    have HIB := xHIB
    clear xHIB
    have xHIC := Lib.hid (HIC.out.below hb13)
    clear HIC
    have HIC := xHIC
    clear xHIC
    have xHTT := Lib.hid (HTT.out.below hb13)
    clear HTT
    have HTT := xHTT
    clear xHTT
    have xHK := Lib.hid (bt HK.out hb13)
    clear HK
    have HK := xHK
    clear xHK
    have xVG := Lib.hid (VG.out.below hb13)
    clear VG
    have VG := xVG
    clear xVG
    have xVU := Lib.hid (VU.out.below hb13)
    clear VU
    have VU := xVU
    clear xVU
    have xVV := Lib.hid (VV.out.below hb13)
    clear VV
    have VV := xVV
    clear xVV
    have xHIG := Lib.hid (HIG.out.below hb13)
    clear HIG
    have HIG := xHIG
    clear xHIG
    have xHIU := Lib.hid (HIU.out.below hb13)
    clear HIU
    have HIU := xHIU
    clear xHIU
    have xHIV := Lib.hid (HIV.out.below hb13)
    clear HIV
    have HIV := xHIV
    clear xHIV
    have xVR := Lib.hid (VR.out.below hb13)
    clear VR
    have VR := xVR
    clear xVR
    have xHIR := Lib.hid (HIR.out.below hb13)
    clear HIR
    have HIR := xHIR
    clear xHIR
    clear hb13
    have a0 := HIR.out.c0
    have a1 := HIR.out.c1
    go_wp2_with fail
    refine (Sign_iv VR.out (show cmpI 0 0 = 0 from rfl)).mono ?_
    rintro e w14 ⟨rfl, hb14⟩
    clear a0 a1
    have a0 := (HIS.out.below hb14).c0
    have a1 := (HIS.out.below hb14).c1
    go_wp2_with fail
    refine (Sign_iv (VS.out.below hb14) (show cmpI 0 0 = 0 from rfl)).mono ?_
    rintro e w15 ⟨rfl, hb15⟩
    have hK15 := bt hb14 hb15
    clear a0 a1
    go_wp2_with fail
    refine (sane_any w15 (HTT.out.below hK15)).mono ?_
    rintro e w16 ⟨rfl, hb16⟩
    have hK16 := bt hK15 hb16
    have a0 := (HIB.out.below hK16).c0
    have a1 := (HIB.out.below hK16).c1
    by_cases hb0 : zb = 0
    · have HVB := Lib.hid (show cmpI zb 0 = 0 by rw [hb0]; rfl)
      clear hb0
      go_wp2_with fail
      refine (Sign_iv (HJB.out.below hK16) HVB.out).mono ?_
      rintro e w17 ⟨rfl, hb17⟩
      go_wp2_with fail
      go_ret
      exact ⟨rfl, bt HK.out (bt hK16 hb17)⟩
    · obtain ⟨v1, hv1⟩ : ∃ v1, v1 = cmpI zb 0 := ⟨_, rfl⟩
      have hv2 : ((v1 : Int) == 0) = false := by rw [hv1]; exact beq_eq_false_iff_ne.2 (cmpI_nz hb0)
      have HVB := Lib.hid hv1.symm
      obtain ⟨hl1, hl2⟩ := HF.out.least hb0
      rw [← HGE.out] at hl2
      obtain ⟨v2, hv3⟩ : ∃ v2, v2 = cmpI u 0 := ⟨_, rfl⟩
      have hv4 : 0 ≤ v2 := by have := cmpI_nn hl1; omega
      have HVU := Lib.hid hv3.symm
      have hcm : cmpI u (((zb.natAbs : Nat) : Int) / g) = -1 := by
        have hg1 : 0 < g := by have h1 := HZ.out; have h2 := HGE.out; omega
        have hlt : u < ((zb.natAbs : Nat) : Int) / g := Int.lt_ediv_of_mul_lt (Int.le_of_lt hg1) (Int.dvd_of_emod_eq_zero HM.out.2) hl2
        unfold cmpI; rw [if_pos hlt]
      have HCM := Lib.hid hcm
      clear hv1 hv3 hb0 hl1 hl2 hcm
      go_wp2_with fail
      refine (Sign_iv (HJB.out.below hK16) HVB.out).mono ?_
      rintro e w17 ⟨rfl, hb17⟩
      have hK17 := bt hK16 hb17
      clear a0 a1
      have a0 := (HIU.out.below hK17).c0
      have a1 := (HIU.out.below hK17).c1
      go_wp2_with fail
      refine (Sign_iv (VU.out.below hK17) HVU.out).mono ?_
      rintro e w18 ⟨rfl, hb18⟩
      have hK18 := bt hK17 hb18
      clear a0 a1
      have a0 := (HIU.out.below hK18).c0
      have a1 := (HIU.out.below hK18).c1
      have d0 := (HIM.out.below hK18).c0
      have d1 := (HIM.out.below hK18).c1
      go_wp2_with fail
      refine (Cmp_iv (VU.out.below hK18) (VM.out.below hK18) HCM.out).mono ?_
      rintro e w19 ⟨rfl, hb19⟩
      go_wp2_with fail
      go_ret
      exact ⟨rfl, bt HK.out (bt hK18 hb19)⟩

set_option maxRecDepth 100000 in
set_option maxHeartbeats 1000000 in
theorem NumBezout_long (w : World) (na nb nc : Bool) (A B C : Option Addr) (x y z cx cy cz : Nat) (hlong : ¬ (x ≤ 40 ∧ y ≤ 40 ∧ z ≤ 40)) (hT : Tens w) :
    Calls Tryd.prog 6 #[.agg #[.bool na, .slice A x cx], .agg #[.bool nb, .slice B y cy], .agg #[.bool nc, .slice C z cz]] w fun e w' => e = .returned (.bool true) ∧ Below w.heap.size w w' := by
  have HTn := Lib.hid hT
  have hsh := fun W => short_wide 40 na nb nc A B C x y z cx cy cz W (by omega) false (by rw [Bool.eq_false_iff]; intro h; simp only [Bool.and_eq_true, decide_eq_true_eq] at h; exact hlong ⟨h.1.1, h.1.2, h.2⟩)
  have HSH := Lib.hid hsh
  clear hT hsh hlong
  go_enter Tryd.func6, Tryd.ntmps6
  go_wp2_with fail
  refine (HSH.out _).mono ?_
  rintro e w2 ⟨rfl, hb2⟩
  have hb : Below w.heap.size w w2 := bt (ba (ba (ba (b0 _) _) _) _) hb2
  go_wp2_with fail
  refine (sane_any w2 (HTn.out.below hb)).mono ?_
  rintro e w3 ⟨rfl, hb3⟩
  go_wp2_with fail
  go_ret
  exact ⟨rfl, bt hb hb3⟩

set_option maxRecDepth 100000 in
set_option maxHeartbeats 2000000 in
theorem NumBezout_not (w : World) (na nb nc : Bool) (A B C : Option Addr) (ca cb cc : Nat) (l k m : List Nat) (p q r : Bool) (hl : WS w A l) (hk : WS w B k) (hm : WS w C m) (hl1 : l.length ≤ 40) (hk1 : k.length ≤ 40) (hm1 : m.length ≤ 40)
    (hp : isB na l = p) (hq : isB nb k = q) (hr : isB nc m = r) (hnot : (p && q && r) = false) (hT : Tens w) :
    Calls Tryd.prog 6 #[.agg #[.bool na, .slice A l.length ca], .agg #[.bool nb, .slice B k.length cb], .agg #[.bool nc, .slice C m.length cc]] w fun e w' => e = .returned (.bool true) ∧ Below w.heap.size w w' := by
  have HTn := Lib.hid hT
  have HA := Lib.hid hp
  have HB := Lib.hid hq
  have HC := Lib.hid hr
  have HN := Lib.hid hnot
  have hsh := fun W => short_wide 40 na nb nc A B C l.length k.length m.length ca cb cc W (by omega) true (by simp [hl1, hk1, hm1])
  have HSH := Lib.hid hsh
  clear hT hp hq hr hsh hnot
  go_enter Tryd.func6, Tryd.ntmps6
  go_wp2_with fail
  obtain ⟨W1, hW1⟩ : ∃ W, W = ((w.alloc (bx na A l.length ca)).alloc (bx nb B k.length cb)).alloc (bx nc C m.length cc) := ⟨_, rfl⟩
  have Y0 : Box2 W1 w.heap.size (.bool na) (.slice A l.length ca) := by rw [hW1]; exact ((Box2.new w _ _).alloc _).alloc _
  have Y1 : Box2 W1 (w.heap.size + 1) (.bool nb) (.slice B k.length cb) := by
    rw [hW1]
    have h := (Box2.new (w.alloc (bx na A l.length ca)) (.bool nb) (.slice B k.length cb)).alloc (bx nc C m.length cc)
    rwa [World.size_alloc] at h
  have Y2 : Box2 W1 (w.heap.size + 1 + 1) (.bool nc) (.slice C m.length cc) := by
    rw [hW1]
    have h := Box2.new ((w.alloc (bx na A l.length ca)).alloc (bx nb B k.length cb)) (.bool nc) (.slice C m.length cc)
    rwa [World.size_alloc, World.size_alloc] at h
  have K1 : Below w.heap.size w W1 := by rw [hW1]; exact ba (ba (ba (b0 _) _) _) _
  change Calls _ _ _ (((w.alloc (bx na A l.length ca)).alloc (bx nb B k.length cb)).alloc (bx nc C m.length cc)) _
  rw [← hW1]
  clear hW1
  refine (HSH.out W1).mono ?_
  rintro e w2 ⟨rfl, hb2⟩
  have K2 : Below w.heap.size w w2 := bt K1 hb2
  have y0 := (Y0.below hb2).cell0
  have y1 := (Y0.below hb2).cell1
  go_wp2_with fail
  refine (RIs_any na A l.length ca l w2 rfl (by omega) (hl.below K2)).mono ?_
  rintro e w3 ⟨rfl, hb3⟩
  rw [HA.out]
  cases p
  · skip
    have K := bt K2 hb3
    clear HN
    go_wp2_with fail
    refine (sane_any w3 (HTn.out.below K)).mono ?_
    rintro e w9 ⟨rfl, hb9⟩
    go_wp2_with fail
    go_ret
    exact ⟨rfl, bt K hb9⟩
  skip
  have K3 := bt K2 hb3
  clear y0 y1
  have y0 := ((Y1.below hb2).below hb3).cell0
  have y1 := ((Y1.below hb2).below hb3).cell1
  go_wp2_with fail
  refine (RIs_any nb B k.length cb k w3 rfl (by omega) (hk.below K3)).mono ?_
  rintro e w4 ⟨rfl, hb4⟩
  rw [HB.out]
  cases q
  · skip
    have K := bt K3 hb4
    clear HN
    go_wp2_with fail
    refine (sane_any w4 (HTn.out.below K)).mono ?_
    rintro e w9 ⟨rfl, hb9⟩
    go_wp2_with fail
    go_ret
    exact ⟨rfl, bt K hb9⟩
  skip
  have K4 := bt K3 hb4
  clear y0 y1
  have y0 := (((Y2.below hb2).below hb3).below hb4).cell0
  have y1 := (((Y2.below hb2).below hb3).below hb4).cell1
  go_wp2_with fail
  refine (RIs_any nc C m.length cc m w4 rfl (by omega) (hm.below K4)).mono ?_
  rintro e w5 ⟨rfl, hb5⟩
  rw [HC.out]
  cases r
  · skip
    have K := bt K4 hb5
    clear HN
    go_wp2_with fail
    refine (sane_any w5 (HTn.out.below K)).mono ?_
    rintro e w9 ⟨rfl, hb9⟩
    go_wp2_with fail
    go_ret
    exact ⟨rfl, bt K hb9⟩
  exact absurd HN.out (by decide)

theorem NumBezout_walk (w : World) (na nb nc : Bool) (A B C : Option Addr) (ca cb cc : Nat) (l k m : List Nat) (hl : WS w A l) (hk : WS w B k) (hm : WS w C m) (hca : l.length ≤ ca) (hcb : k.length ≤ cb) (hcc : m.length ≤ cc) (hT : Tens w) :
    Calls Tryd.prog 6 #[.agg #[.bool na, .slice A l.length ca], .agg #[.bool nb, .slice B k.length cb], .agg #[.bool nc, .slice C m.length cc]] w fun e w' => e = .returned (.bool true) ∧ Below w.heap.size w w' := by
  by_cases h : l.length ≤ 40 ∧ k.length ≤ 40 ∧ m.length ≤ 40
  · by_cases hc : (isB na l && isB nb k && isB nc m) = true
    · simp only [Bool.and_eq_true] at hc
      exact NumBezout_look w na nb nc A B C ca cb cc l k m hl hk hm h.1 h.2.1 h.2.2 hca hcb hcc hc.1.1 hc.1.2 hc.2 hT
    · exact NumBezout_not w na nb nc A B C ca cb cc l k m _ _ _ hl hk hm h.1 h.2.1 h.2.2 rfl rfl rfl (by simpa using hc) hT
  · exact NumBezout_long w na nb nc A B C _ _ _ ca cb cc h hT
end Go.Proofs.YtaaipcjbmdbndaaDoor
