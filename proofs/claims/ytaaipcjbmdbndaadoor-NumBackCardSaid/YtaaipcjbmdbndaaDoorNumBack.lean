/- NumBack: the walk. -/
import Derived.Test.YtaaipcjbmdbndaaDoorNumBackV
import Derived.Deep.RegionHeld3
import Derived.Deep.RegionLaw
import Derived.Deep.DeepCutAuto
import Derived.Outline
set_option linter.unusedSimpArgs false
set_option linter.unusedVariables false
namespace Go.Proofs.YtaaipcjbmdbndaaDoor
open Go.RowKit

theorem cmpI_nz {x : Int} (h : x ≠ 0) : cmpI x 0 ≠ 0 := by unfold cmpI; split <;> (try split) <;> omega
theorem cmpI_nn {x : Int} (h : 0 ≤ x) : ¬ (cmpI x 0 < 0) := by unfold cmpI; split <;> (try split) <;> omega
theorem IntAt.lt {W : World} {p : Nat} {n : Bool} {A : Option Addr} {c : Nat} {l : List Nat} {z : Int} (h : IntAt W p n A c l z) : p < W.heap.size := by
  rcases Nat.lt_or_ge p W.heap.size with hlt | hge
  · exact hlt
  · have := h.c0
    simp [World.cell?, Array.getElem?_eq_none hge] at this
/-- What one box leaves. -/
def OneAt (w : World) (x : Int) (s : Value) (W : World) : Prop := ∃ p n A c l, s = .pointer (some ⟨p, 0, none⟩) ∧ IntAt W p n A c l x ∧ Below w.heap.size w W
/-- What Parse left of a text. -/
def TxtAt (w : World) (text : ByteArray) (s t : Value) (W : World) : Prop :=
  ∃ p n A c l f, s = .pointer (some ⟨p, 0, none⟩) ∧ t = .int .i64 f ∧ Box2 W p (.bool n) (.slice A l.length c) ∧ Below w.heap.size w W ∧
    ((f = 0 ∧ ∃ z, IsTxt text z ∧ WS W A l ∧ isB n l = true ∧ zI n l = z) ∨ f = 3)

set_option maxRecDepth 100000 in
set_option maxHeartbeats 40000000 in
theorem NumBack_main (w : World) (na : Bool) (A : Option Addr) (ca : Nat) (l : List Nat) (text : ByteArray) (digit m n : Int) (hl : WS w A l) (hl1 : l.length ≤ 40) (hca : l.length ≤ ca) (ha : isB na l = true) (ht : text.size ≤ 3000) (hd : 0 ≤ digit ∧ digit < 256) (hm : 0 ≤ m ∧ m < 256) (hn : 0 ≤ n ∧ n < 256) (hT : Tens w) :
    Calls Tryd.prog 7 #[.agg #[.bool na, .slice A l.length ca], .string text, .int .u8 digit, .int .u8 m, .int .u8 n] w fun e w' => e = .returned (.bool true) ∧ Below w.heap.size w w' := by
  have HTn := Lib.hid hT
  have HA := Lib.hid ha
  have hsh := fun W => short_wide 40 na na na A A A l.length l.length l.length ca ca ca W (by omega) true (by simp [hl1])
  have HSH := Lib.hid hsh
  have hti : ¬ (3000 : Int) < (text.size : Int) := by omega
  clear hT ha hsh
  go_enter Tryd.func7, Tryd.ntmps7
  go_wp2_with fail
  obtain ⟨W1, hW1⟩ : ∃ W, W = w.alloc (bx na A l.length ca) := ⟨_, rfl⟩
  have Y0 : Box2 W1 w.heap.size (.bool na) (.slice A l.length ca) := by rw [hW1]; exact Box2.new w _ _
  have K1 : Below w.heap.size w W1 := by rw [hW1]; exact ba (b0 _) _
  change Calls _ _ _ (w.alloc (bx na A l.length ca)) _
  rw [← hW1]
  clear hW1
  refine (HSH.out W1).mono ?_
  rintro e w2 ⟨rfl, hb2⟩
  have K2 : Below w.heap.size w w2 := bt K1 hb2
  have y0 := (Y0.below hb2).cell0
  have y1 := (Y0.below hb2).cell1
  go_wp2_with fail
  refine (RIs_any na A l.length ca l w2 rfl (by omega) (hl.below K2)).mono ?_
  rintro e w3 ⟨rfl, hb3⟩
  rw [HA.out]
  have K3 := bt K2 hb3
  have Z0 := (Y0.below hb2).below hb3
  clear y0 y1 Y0 K1 K2 hb2 hb3 HSH
  obtain ⟨za, hza⟩ : ∃ z, z = zI na l := ⟨_, rfl⟩
  have JA : IV w3 na A ca l za := ⟨hca, hl.below K3, HA.out, hza.symm, by omega⟩
  have TA : Lt 40 za := lt_le (lt_val hl hza.symm) hl1
  have TT := HTn.out.below K3
  clear hl hca HTn HA hza
  have HIA := Lib.hid (IntAt.box Z0 JA)
  have HJA := Lib.hid JA
  have HTA := Lib.hid TA
  have HTT := Lib.hid TT
  have HK := Lib.hid K3
  clear JA TA TT Z0 K3
  have a0 := HIA.out.c0
  have a1 := HIA.out.c1
  go_wp2_with fail
  refine (Print_iv HJA.out HTT.out).mono ?_
  rintro e w4 ⟨s, rfl, hs, hb4⟩
  have HS := Lib.hid hs
  have hsz := hs.size (lt_le HTA.out (by decide))
  have HTT4 := Lib.hid (HTT.out.below hb4)
  have HJ4 := Lib.hid (HJA.out.below hb4)
  have HI4 := Lib.hid (HIA.out.below hb4)
  have HK4 := Lib.hid (bt HK.out hb4)
  clear hs hb4 HTT HJA HIA HK a0 a1
  go_wp2_with fail
  refine (Parse_txt HS.out (by omega) HTT4.out).mono ?_
  rintro e w5 ⟨n1, A1, c1, l1, rfl, hw1, hB1, hz1, hb5⟩
  have V1 := Lib.hid (And.intro hw1 (And.intro hB1 hz1))
  have HTT5 := Lib.hid (HTT4.out.below hb5)
  have HJ5 := Lib.hid (HJ4.out.below hb5)
  have HI5 := Lib.hid (HI4.out.below hb5)
  have HK5 := Lib.hid (bt HK4.out hb5)
  clear hw1 hB1 hz1 hb5 HTT4 HJ4 HI4 HK4
  go_upto_region 5 with fail
  obtain ⟨w6, hw6⟩ : ∃ W, W = w5.alloc (.cells #[.bool n1, .slice A1 l1.length c1] 24) := ⟨_, rfl⟩
  have Y1 : Box2 w6 w5.heap.size (.bool n1) (.slice A1 l1.length c1) := by rw [hw6]; exact Box2.new _ _ _
  have hb6 : Below w5.heap.size w5 w6 := by rw [hw6]; exact ba (b0 _) _
  rw [← hw6]
  clear hw6
  have HTT := Lib.hid (HTT5.out.below hb6)
  have HJA := Lib.hid (HJ5.out.below hb6)
  have HIA := Lib.hid (HI5.out.below hb6)
  have HK := Lib.hid (bt HK5.out hb6)
  have HW1 := Lib.hid (V1.out.1.below hb6)
  clear hb6 HTT5 HJ5 HI5 HK5
  have a0 := HIA.out.c0
  have a1 := HIA.out.c1
  have d0 := Y1.cell0
  have d1 := Y1.cell1
  have hl1n : l1.length ≤ 60 := top_len (isB_top V1.out.2.1) (by rw [val_abs V1.out.2.2]; exact lt_le HTA.out (by decide))
  go_wp2_with fail
  refine (same_of HJA.out.ws HW1.out HJA.out.can V1.out.2.1 HJA.out.val V1.out.2.2 (by omega) (by omega)).mono ?_
  rintro e w7 ⟨rfl, hb7⟩
  clear a0 a1 d0 d1 Y1 HW1 V1 hl1n
  have xHJA := Lib.hid (HJA.out.below hb7)
  clear HJA
  have HJA := xHJA
  clear xHJA
  have xHIA := Lib.hid (HIA.out.below hb7)
  clear HIA
  have HIA := xHIA
  clear xHIA
  have xHTT := Lib.hid (HTT.out.below hb7)
  clear HTT
  have HTT := xHTT
  clear xHTT
  have xHK := Lib.hid (bt HK.out hb7)
  clear HK
  have HK := xHK
  clear xHK
  clear hb7
  go_upto_region 7 with fail
  go_cut [14, 15] (fun s t wx => TxtAt w7 text s t wx)
  case first =>
    as_aux_lemma =>
    rcases txt_cases text with ⟨z, hz⟩ | hbad
    · have HZ := Lib.hid hz
      go_wp2_with fail
      refine (Parse_txt HZ.out (by omega) HTT.out).mono ?_
      rintro e w8 ⟨n2, A2, c2, l2, rfl, hw2, hB2, hz2, hb8⟩
      have V2 := Lib.hid (And.intro hw2 (And.intro hB2 hz2))
      clear hw2 hB2 hz2
      go_wp2_with fail
      go_meet
      exact ⟨w8.heap.size, n2, A2, c2, l2, 0, rfl, rfl, Box2.new _ _ _, ba hb8 _, .inl ⟨rfl, z, HZ.out, V2.out.1.below (ba (b0 _) _), V2.out.2.1, V2.out.2.2⟩⟩
    · go_wp2_with fail
      refine (Parse_bad hbad (by omega)).mono ?_
      rintro e w8 ⟨rfl, hb8⟩
      go_wp2_with fail
      go_meet
      exact ⟨w8.heap.size, false, none, 0, [], 3, rfl, rfl, Box2.new _ _ _, ba hb8 _, .inr rfl⟩
  case rest =>
  obtain ⟨p, n2, A2, c2, l2, f, rfl, rfl, hbx, hb8, hcase⟩ := hcut
  obtain ⟨w8, hw8⟩ : ∃ v, v = wc := ⟨_, rfl⟩
  rw [← hw8] at hbx hb8 hcase ⊢
  clear hw8 wc
  have xHJA := Lib.hid (HJA.out.below hb8)
  clear HJA
  have HJA := xHJA
  clear xHJA
  have xHIA := Lib.hid (HIA.out.below hb8)
  clear HIA
  have HIA := xHIA
  clear xHIA
  have xHTT := Lib.hid (HTT.out.below hb8)
  clear HTT
  have HTT := xHTT
  clear xHTT
  have xHK := Lib.hid (bt HK.out hb8)
  clear HK
  have HK := xHK
  clear xHK
  clear hb8
  have HCA := Lib.hid hcase
  clear hcase
  go_upto_region 8 with fail
  go_cut [72] (fun s wx => s = .bool false ∧ Below w8.heap.size w8 wx)
  case first =>
    as_aux_lemma =>
    have d0 := hbx.cell0
    have d1 := hbx.cell1
    rcases HCA.out with ⟨rfl, z, hz, hw2, hB2, hz2⟩ | rfl
    · have HZ := Lib.hid hz
      have V2 := Lib.hid (And.intro hw2 (And.intro hB2 hz2))
      have hl2 : l2.length ≤ 10000 := Nat.le_trans (top_len (m := 400) (isB_top hB2) (by rw [val_abs hz2]; exact hz.lt ht)) (by omega)
      clear hz hw2 hB2 hz2
      go_wp2_with fail
      refine (Print_can V2.out.1 V2.out.2.1 V2.out.2.2 hl2 HTT.out).mono ?_
      rintro e w9 ⟨s2, rfl, hs2, hb9⟩
      obtain rfl : s2 = text := hs2.uniq HZ.out
      go_wp2_with fail
      go_meet
      exact ⟨rfl, hb9⟩
    · go_wp2_with fail
      go_meet
      exact ⟨rfl, b0 _⟩
  case rest =>
  obtain ⟨rfl, hb9⟩ := hcut
  obtain ⟨w9, hw9⟩ : ∃ v, v = wc := ⟨_, rfl⟩
  rw [← hw9] at hb9 ⊢
  clear hw9 wc hbx HCA
  have xHJA := Lib.hid (HJA.out.below hb9)
  clear HJA
  have HJA := xHJA
  clear xHJA
  have xHIA := Lib.hid (HIA.out.below hb9)
  clear HIA
  have HIA := xHIA
  clear xHIA
  have xHTT := Lib.hid (HTT.out.below hb9)
  clear HTT
  have HTT := xHTT
  clear xHTT
  have xHK := Lib.hid (bt HK.out hb9)
  clear HK
  have HK := xHK
  clear xHK
  clear hb9
  have a0 := HIA.out.c0
  have a1 := HIA.out.c1
  obtain ⟨hd1, hd2⟩ := hd
  go_upto_region 11 with fail
  obtain ⟨d, hde⟩ : ∃ d : Nat, digit % 10 = (d : Int) := ⟨(digit % 10).toNat, by omega⟩
  have hdl : d < 10 := by omega
  rw [hde]
  clear hde
  obtain ⟨v, hv⟩ : ∃ v, v = cmpI za 0 := ⟨_, rfl⟩
  have hvb : -1 ≤ v ∧ v ≤ 1 := by rw [hv]; unfold cmpI; split <;> (try split) <;> omega
  have HV := Lib.hid hv
  clear hv
  go_wp2_with fail
  refine (Sign_iv HJA.out HV.out.symm).mono ?_
  rintro e w10 ⟨rfl, hb10⟩
  clear a0 a1
  have xHJA := Lib.hid (HJA.out.below hb10)
  clear HJA
  have HJA := xHJA
  clear xHJA
  have xHIA := Lib.hid (HIA.out.below hb10)
  clear HIA
  have HIA := xHIA
  clear xHIA
  have xHTT := Lib.hid (HTT.out.below hb10)
  clear HTT
  have HTT := xHTT
  clear xHTT
  have xHK := Lib.hid (bt HK.out hb10)
  clear HK
  have HK := xHK
  clear xHK
  clear hb10
  go_upto_if 78 with fail
  go_cut [] (fun wx => Below w10.heap.size w10 wx)
  case first =>
    by_cases hz : za = 0
    · have hv0 : ((v : Int) != 0) = false := by rw [HV.out, hz]; rfl
      clear hz
      go_wp2_with fail
      go_meet
      exact b0 _
    · have hv0 : ((v : Int) != 0) = true := by rw [HV.out]; exact bne_iff_ne.2 (cmpI_nz hz)
      have HZ := Lib.hid hz
      clear hz
      have a0 := HIA.out.c0
      have a1 := HIA.out.c1
      have hde : ((UInt8.ofNat (48 + d)).toNat : Int) = 48 + (d : Int) := by
        have h1 := (isDg_of d hdl).2
        have h2 := (isDg_of d hdl).1
        unfold dg at h1
        unfold isDg at h2
        omega
      have hbk : BBlk (w10.alloc (.cells #[.int .u8 (48 + (d : Int))] 5)) w10.heap.size [UInt8.ofNat (48 + d)] := by
        have h := BBlk.new w10 [UInt8.ofNat (48 + d)]
        have e : bytesv [UInt8.ofNat (48 + d)] = #[.int .u8 (48 + (d : Int))] := by unfold bytesv; rw [← hde]; rfl
        rwa [e] at h
      have hcv := run_bstr hbk 0 1 1 rfl
      rw [List.drop_zero] at hcv
      clear hde hbk
      go_wp2_with fail
      obtain ⟨dv, hdv⟩ : ∃ dv, dv = (d : Int) * v := ⟨_, rfl⟩
      have hdvb : -9 ≤ dv ∧ dv ≤ 9 := by
        rw [hdv]
        have hv3 : v = -1 ∨ v = 0 ∨ v = 1 := by omega
        rcases hv3 with rfl | rfl | rfl <;> omega
      obtain ⟨z2, hz2⟩ : ∃ z2, z2 = za * 10 + dv := ⟨_, rfl⟩
      have hL2 : Lt 60 z2 := by
        rw [hz2]
        exact lt_le (lt_add (lt_mul HTA.out (lt_one (z := 10) (by decide))) (lt_one (z := dv) (by omega))) (by omega)
      have HL2 := Lib.hid hL2
      have htx : IsTxt (s ++ ⟨#[48 + UInt8.ofNat d]⟩) z2 := by
        have h := HS.out.digit HZ.out d hdl
        rw [← HV.out, ← hdv, ← hz2] at h
        have e : (s ++ ⟨#[48 + UInt8.ofNat d]⟩ : ByteArray) = ⟨(s.data.toList ++ [UInt8.ofNat (48 + d)]).toArray⟩ := by
          apply ByteArray.ext
          apply Array.ext'
          simp [UInt8.ofNat_add]
        rw [e]; exact h
      have hts := htx.size hL2
      obtain ⟨tx, htxe⟩ : ∃ tx, tx = (s ++ ⟨#[48 + UInt8.ofNat d]⟩ : ByteArray) := ⟨_, rfl⟩
      rw [← htxe] at htx hts ⊢
      have HTX := Lib.hid htx
      have HD := Lib.hid (And.intro hdv hz2)
      clear htx htxe hL2 hcv hdv hz2
      refine (Parse_txt HTX.out (by omega) (HTT.out.below (ba (b0 _) _))).mono ?_
      rintro e w11 ⟨n3, A3, c3, l3, rfl, hw3, hB3, hz3, hb11⟩
      have V3 := Lib.hid (And.intro hw3 (And.intro hB3 hz3))
      have hb11' := bt (ba (b0 w10) (.cells #[.int .u8 (48 + (d : Int))] 5)) hb11
      have hl3n : l3.length ≤ 60 := top_len (isB_top hB3) (by rw [val_abs hz3]; exact HL2.out)
      clear hw3 hB3 hz3 hb11 a0 a1
      go_upto_region 13 with fail
      obtain ⟨w12, hw12⟩ : ∃ W, W = w11.alloc (.cells #[.bool n3, .slice A3 l3.length c3] 24) := ⟨_, rfl⟩
      have Y3 : Box2 w12 w11.heap.size (.bool n3) (.slice A3 l3.length c3) := by rw [hw12]; exact Box2.new _ _ _
      have hb12 : Below w11.heap.size w11 w12 := by rw [hw12]; exact ba (b0 _) _
      rw [← hw12]
      clear hw12
      have HW3 := Lib.hid (V3.out.1.below hb12)
      have hK12 := bt hb11' hb12
      have HJ := Lib.hid (HJA.out.below hK12)
      have HI := Lib.hid (HIA.out.below hK12)
      have HKK := Lib.hid hK12
      clear hb12 hb11' hK12 HJA HIA HTT
      have HS5 : Hid (∀ W, Below w12.heap.size w12 W → W.cell? ⟨w.heap.size, 0, none⟩ = some (.bool na) ∧ W.cell? ⟨w.heap.size, 1, none⟩ = some (.slice A l.length ca) ∧ W.cell? ⟨w11.heap.size, 0, none⟩ = some (.bool n3) ∧ W.cell? ⟨w11.heap.size, 1, none⟩ = some (.slice A3 l3.length c3)) := fun W hb => ⟨cell_below HI.out.c0 hb, cell_below HI.out.c1 hb, (Y3.below hb).cell0, (Y3.below hb).cell1⟩
      have tokO : True := trivial
      have HDB := Lib.hid (show -4294967296 < dv ∧ dv < 4294967296 from ⟨by omega, by omega⟩)
      have HLL := Lib.hid (show l.length ≤ 4000000 ∧ l3.length ≤ 4000000 from ⟨by omega, by omega⟩)
      have hwr : IntKind.i64.wrap dv = dv := IntWalk.i64_in _ ⟨by omega, by omega⟩
      have hmw : (d : Int) * v = dv := HD.out.1.symm
      go_cut [105] (fun s wx => s = .bool false ∧ Below w12.heap.size w12 wx)
      case first =>
        as_aux_lemma =>
        go_region_held3 (fun W => W.cell? ⟨w.heap.size, 0, none⟩ = some (.bool na) ∧ W.cell? ⟨w.heap.size, 1, none⟩ = some (.slice A l.length ca) ∧ W.cell? ⟨w11.heap.size, 0, none⟩ = some (.bool n3) ∧ W.cell? ⟨w11.heap.size, 1, none⟩ = some (.slice A3 l3.length c3))
          (first | (refine HS5.out _ ?_; (first | assumption | exact bd (b0 _) _ | exact b0 _)))
          (first
            | (go_at_call 19; clear tokO; refine (Of_iv _ 10 (by decide) (by decide)).mono ?_; rintro e w20 ⟨n20, A20, c20, l20, rfl, hv20, hb20⟩; have R20 := Lib.hid hv20; clear hv20; have hK20 := bdn hb20)
            | (go_at_call 18; refine (Mul_iv (HJ.out.below hK20) R20.out (z := za * 10) rfl (lt_le (lt_mul HTA.out (lt_one (z := 10) (by decide))) (by decide))).mono ?_; rintro e w21 ⟨n21, A21, c21, l21, rfl, hv21, hb21⟩; have R21 := Lib.hid hv21; clear hv21; have hK21 := bt hK20 hb21)
            | (go_at_call 23; refine (Sign_iv (HJ.out.below hK21) HV.out.symm).mono ?_; rintro e w22 ⟨rfl, hb22⟩; have hK22 := bt hK21 hb22)
            | (go_at_call 19; refine (Of_iv _ dv HDB.out.1 HDB.out.2).mono ?_; rintro e w23 ⟨n23, A23, c23, l23, rfl, hv23, hb23⟩; have R23 := Lib.hid hv23; clear hv23; have hK23 := bt hK22 hb23)
            | (go_at_call 17; refine (Add_iv (R21.out.below (bt hb22 hb23)) R23.out (z := z2) HD.out.2.symm (lt_le HL2.out (by decide))).mono ?_; rintro e w24 ⟨n24, A24, c24, l24, rfl, hv24, hb24⟩; have R24 := Lib.hid hv24; clear hv24; have hK24 := bt hK23 hb24)
            | (go_at_call 13; refine (same_of (HW3.out.below hK24) R24.out.ws V3.out.2.1 R24.out.can V3.out.2.2 R24.out.val HLL.out.2 (Nat.le_trans R24.out.len (by decide))).mono ?_; rintro e w25 ⟨rfl, hb25⟩; have hK25 := bt hK24 hb25))
        go_wp2_with fail
        go_meet
        exact ⟨rfl, hK25⟩
      case rest =>
      obtain ⟨rfl, hb13⟩ := hcut
      obtain ⟨w13, hw13⟩ : ∃ v, v = wc := ⟨_, rfl⟩
      rw [← hw13] at hb13 ⊢
      clear hw13 wc
      go_wp2_with fail
      go_meet
      exact bt HKK.out hb13
  case rest =>
  obtain ⟨w13, hw13⟩ : ∃ v, v = wc := ⟨_, rfl⟩
  rw [← hw13] at hcut ⊢
  clear hw13 wc
  have xHJA := Lib.hid (HJA.out.below hcut)
  clear HJA
  have HJA := xHJA
  clear xHJA
  have xHIA := Lib.hid (HIA.out.below hcut)
  clear HIA
  have HIA := xHIA
  clear xHIA
  have xHTT := Lib.hid (HTT.out.below hcut)
  clear HTT
  have HTT := xHTT
  clear xHTT
  have xHK := Lib.hid (bt HK.out hcut)
  clear HK
  have HK := xHK
  clear xHK
  clear hcut HS hsz
  have a0 := HIA.out.c0
  have a1 := HIA.out.c1
  have hbits : bl l ≤ 1280 := by
    rcases Nat.eq_zero_or_pos l.length with h | h
    · unfold bl; rw [if_pos h]; omega
    · have := (bl_bound HJA.out.ws.1 (isB_top HJA.out.can) h).2.2.1; omega
  go_wp2_with fail
  refine (RBits_any na A l.length ca l true w13 rfl (by omega) HJA.out.ws HJA.out.can).mono ?_
  rintro e w14 ⟨rfl, hb14⟩
  rw [if_pos rfl]
  have xHJA := Lib.hid (HJA.out.below hb14)
  clear HJA
  have HJA := xHJA
  clear xHJA
  have xHIA := Lib.hid (HIA.out.below hb14)
  clear HIA
  have HIA := xHIA
  clear xHIA
  have xHTT := Lib.hid (HTT.out.below hb14)
  clear HTT
  have HTT := xHTT
  clear xHTT
  have xHK := Lib.hid (bt HK.out hb14)
  clear HK
  have HK := xHK
  clear xHK
  clear hb14 a0 a1
  obtain ⟨mm, rfl⟩ : ∃ x : Nat, m = (x : Int) := ⟨m.toNat, by omega⟩
  obtain ⟨nn, rfl⟩ : ∃ x : Nat, n = (x : Int) := ⟨n.toNat, by omega⟩
  obtain ⟨bb, hbb⟩ : ∃ x, x = bl l := ⟨_, rfl⟩
  rw [← hbb] at hbits ⊢
  obtain ⟨P, hP⟩ : ∃ P, P = (bb + 1) * (mm + nn) := ⟨_, rfl⟩
  have hPb : P ≤ 653310 := by
    rw [hP]
    exact Nat.le_trans (Nat.mul_le_mul (show bb + 1 ≤ 1281 by omega) (show mm + nn ≤ 510 by omega)) (by decide)
  have hPi : ((bb : Int) + 1) * ((mm : Int) + (nn : Int)) = (P : Int) := by rw [hP]; simp
  have HP := Lib.hid hP
  have HBB := Lib.hid hbb
  clear hP hbb
  go_upto_if 116 with fail
  go_cut [] (fun wx => Below w14.heap.size w14 wx)
  case first =>
    by_cases hP5 : P ≤ 5000
    · have hPi5 : (P : Int) ≤ 5000 := by omega
      have hxm : (bl l + 1) * mm ≤ 5000 := by
        rw [← HBB.out]
        have h := HP.out
        have h2 := Nat.mul_le_mul_left (bb + 1) (show mm ≤ mm + nn by omega)
        omega
      have hxn : (bl l + 1) * nn ≤ 5000 := by
        rw [← HBB.out]
        have h := HP.out
        have h2 := Nat.mul_le_mul_left (bb + 1) (show nn ≤ mm + nn by omega)
        omega
      have hxs : (bl l + 1) * (mm + nn) ≤ 5000 := by rw [← HBB.out, ← HP.out]; exact hP5
      have HX := Lib.hid (And.intro hxm (And.intro hxn hxs))
      have hLs := lt_pow HJA.out.ws.1 HJA.out.can HJA.out.val hxs
      have HLS := Lib.hid hLs
      clear hxm hxn hxs hP5 hLs hPb
      have a0 := HIA.out.c0
      have a1 := HIA.out.c1
      go_wp2_with fail
      refine (Pow_iv HJA.out (x := mm) HX.out.1).mono ?_
      rintro e w15 ⟨n4, A4, c4, l4, rfl, hv4, hb4⟩
      have V4 := Lib.hid hv4
      clear hv4 a0 a1
      go_upto_region 18 with fail
      obtain ⟨w16, hw16⟩ : ∃ W, W = w15.alloc (.cells #[.bool n4, .slice A4 l4.length c4] 24) := ⟨_, rfl⟩
      have Y4 : Box2 w16 w15.heap.size (.bool n4) (.slice A4 l4.length c4) := by rw [hw16]; exact Box2.new _ _ _
      have hq4 : Below w15.heap.size w15 w16 := by rw [hw16]; exact ba (b0 _) _
      rw [← hw16]
      clear hw16
      have hr4 := bt hb4 hq4
      have I4 := Lib.hid (IntAt.box Y4 (V4.out.below hq4))
      have xV4 := Lib.hid (V4.out.below hq4)
      clear V4 Y4
      have V4 := xV4
      clear xV4
      have xHJA := Lib.hid (HJA.out.below hr4)
      clear HJA
      have HJA := xHJA
      clear xHJA
      have xHIA := Lib.hid (HIA.out.below hr4)
      clear HIA
      have HIA := xHIA
      clear xHIA
      have xHTT := Lib.hid (HTT.out.below hr4)
      clear HTT
      have HTT := xHTT
      clear xHTT
      have xHK := Lib.hid (bt HK.out hr4)
      clear HK
      have HK := xHK
      clear xHK
      have HB4 := Lib.hid hr4
      clear hr4 hb4 hq4
      have a0 := HIA.out.c0
      have a1 := HIA.out.c1
      go_wp2_with fail
      refine (Pow_iv HJA.out (x := nn) HX.out.2.1).mono ?_
      rintro e w17 ⟨n5, A5, c5, l5, rfl, hv5, hb5⟩
      have V5 := Lib.hid hv5
      clear hv5 a0 a1
      go_upto_region 19 with fail
      obtain ⟨w18, hw18⟩ : ∃ W, W = w17.alloc (.cells #[.bool n5, .slice A5 l5.length c5] 24) := ⟨_, rfl⟩
      have Y5 : Box2 w18 w17.heap.size (.bool n5) (.slice A5 l5.length c5) := by rw [hw18]; exact Box2.new _ _ _
      have hq5 : Below w17.heap.size w17 w18 := by rw [hw18]; exact ba (b0 _) _
      rw [← hw18]
      clear hw18
      have hr5 := bt hb5 hq5
      have I5 := Lib.hid (IntAt.box Y5 (V5.out.below hq5))
      have xV5 := Lib.hid (V5.out.below hq5)
      clear V5 Y5
      have V5 := xV5
      clear xV5
      have xHJA := Lib.hid (HJA.out.below hr5)
      clear HJA
      have HJA := xHJA
      clear xHJA
      have xHIA := Lib.hid (HIA.out.below hr5)
      clear HIA
      have HIA := xHIA
      clear xHIA
      have xHTT := Lib.hid (HTT.out.below hr5)
      clear HTT
      have HTT := xHTT
      clear xHTT
      have xHK := Lib.hid (bt HK.out hr5)
      clear HK
      have HK := xHK
      clear xHK
      have xV4 := Lib.hid (V4.out.below hr5)
      clear V4
      have V4 := xV4
      clear xV4
      have xI4 := Lib.hid (I4.out.below hr5)
      clear I4
      have I4 := xI4
      clear xI4
      have HB5 := Lib.hid (bt HB4.out hr5)
      clear hr5 hb5 hq5 HB4
      have hp3 := Pow_iv (x := mm + nn) HJA.out HX.out.2.2
      rw [show ((mm + nn : Nat) : Int) = (mm : Int) + (nn : Int) from by simp] at hp3
      have HP3 := Lib.hid hp3
      clear hp3
      have a0 := HIA.out.c0
      have a1 := HIA.out.c1
      go_wp2_with fail
      refine (HP3.out).mono ?_
      rintro e w19 ⟨n6, A6, c6, l6, rfl, hv6, hb6⟩
      have V6 := Lib.hid hv6
      clear hv6 a0 a1
      go_upto_region 20 with fail
      obtain ⟨w20, hw20⟩ : ∃ W, W = w19.alloc (.cells #[.bool n6, .slice A6 l6.length c6] 24) := ⟨_, rfl⟩
      have Y6 : Box2 w20 w19.heap.size (.bool n6) (.slice A6 l6.length c6) := by rw [hw20]; exact Box2.new _ _ _
      have hq6 : Below w19.heap.size w19 w20 := by rw [hw20]; exact ba (b0 _) _
      rw [← hw20]
      clear hw20
      have hr6 := bt hb6 hq6
      have I6 := Lib.hid (IntAt.box Y6 (V6.out.below hq6))
      have xV6 := Lib.hid (V6.out.below hq6)
      clear V6 Y6
      have V6 := xV6
      clear xV6
      have xHJA := Lib.hid (HJA.out.below hr6)
      clear HJA
      have HJA := xHJA
      clear xHJA
      have xHIA := Lib.hid (HIA.out.below hr6)
      clear HIA
      have HIA := xHIA
      clear xHIA
      have xHTT := Lib.hid (HTT.out.below hr6)
      clear HTT
      have HTT := xHTT
      clear xHTT
      have xHK := Lib.hid (bt HK.out hr6)
      clear HK
      have HK := xHK
      clear xHK
      have xV4 := Lib.hid (V4.out.below hr6)
      clear V4
      have V4 := xV4
      clear xV4
      have xI4 := Lib.hid (I4.out.below hr6)
      clear I4
      have I4 := xI4
      clear xI4
      have xV5 := Lib.hid (V5.out.below hr6)
      clear V5
      have V5 := xV5
      clear xV5
      have xI5 := Lib.hid (I5.out.below hr6)
      clear I5
      have I5 := xI5
      clear xI5
      have HB6 := Lib.hid (bt HB5.out hr6)
      clear hr6 hb6 hq6 HB5 HP3
      have HS5 : Hid (∀ W, Below w20.heap.size w20 W → W.cell? ⟨w15.heap.size, 0, none⟩ = some (.bool n4) ∧ W.cell? ⟨w15.heap.size, 1, none⟩ = some (.slice A4 l4.length c4) ∧ W.cell? ⟨w17.heap.size, 0, none⟩ = some (.bool n5) ∧ W.cell? ⟨w17.heap.size, 1, none⟩ = some (.slice A5 l5.length c5) ∧ W.cell? ⟨w19.heap.size, 0, none⟩ = some (.bool n6) ∧ W.cell? ⟨w19.heap.size, 1, none⟩ = some (.slice A6 l6.length c6)) := fun W hb => ⟨cell_below I4.out.c0 hb, cell_below I4.out.c1 hb, cell_below I5.out.c0 hb, cell_below I5.out.c1 hb, cell_below I6.out.c0 hb, cell_below I6.out.c1 hb⟩
      go_cut [158] (fun s wx => s = .bool false ∧ Below w20.heap.size w20 wx)
      case first =>
        as_aux_lemma =>
        go_region_held3 (fun W => W.cell? ⟨w15.heap.size, 0, none⟩ = some (.bool n4) ∧ W.cell? ⟨w15.heap.size, 1, none⟩ = some (.slice A4 l4.length c4) ∧ W.cell? ⟨w17.heap.size, 0, none⟩ = some (.bool n5) ∧ W.cell? ⟨w17.heap.size, 1, none⟩ = some (.slice A5 l5.length c5) ∧ W.cell? ⟨w19.heap.size, 0, none⟩ = some (.bool n6) ∧ W.cell? ⟨w19.heap.size, 1, none⟩ = some (.slice A6 l6.length c6))
          (first | (refine HS5.out _ ?_; (first | assumption | exact bd (b0 _) _ | exact b0 _)))
          (first
            | (go_at_call 18; refine (Mul_iv (V4.out.below (bd (b0 _) _)) (V5.out.below (bd (b0 _) _)) (z := za ^ (mm + nn)) (Int.pow_add za mm nn).symm (lt_le HLS.out (by decide))).mono ?_; rintro e w21 ⟨n21, A21, c21, l21, rfl, hv21, hb21⟩; have R21 := Lib.hid hv21; clear hv21; have hK21 := bdn hb21)
            | (go_at_call 13; refine (Same_iv R21.out (V6.out.below hK21)).mono ?_; rintro e w22 ⟨rfl, hb22⟩; have hK22 := bt hK21 hb22))
        go_wp2_with fail
        go_meet
        exact ⟨rfl, hK22⟩
      case rest =>
      obtain ⟨rfl, hb21⟩ := hcut
      obtain ⟨w21, hw21⟩ : ∃ v, v = wc := ⟨_, rfl⟩
      rw [← hw21] at hb21 ⊢
      clear hw21 wc
      go_wp2_with fail
      go_meet
      exact bt HB6.out hb21
    · have hPi5 : ¬ (P : Int) ≤ 5000 := by omega
      go_wp2_with fail
      go_meet
      exact b0 _
  case rest =>
  obtain ⟨w20, hw20⟩ : ∃ v, v = wc := ⟨_, rfl⟩
  rw [← hw20] at hcut ⊢
  clear hw20 wc
  have xHJA := Lib.hid (HJA.out.below hcut)
  clear HJA
  have HJA := xHJA
  clear xHJA
  have xHIA := Lib.hid (HIA.out.below hcut)
  clear HIA
  have HIA := xHIA
  clear xHIA
  have xHTT := Lib.hid (HTT.out.below hcut)
  clear HTT
  have HTT := xHTT
  clear xHTT
  have xHK := Lib.hid (bt HK.out hcut)
  clear HK
  have HK := xHK
  clear xHK
  clear hcut HP HBB hPi hPb hbits HV hvb
  have a0 := HIA.out.c0
  have a1 := HIA.out.c1
  by_cases hneg : za < 0
  · have HS0 := Lib.hid (show cmpI za 0 = -1 by unfold cmpI; rw [if_pos hneg])
    go_wp2_with fail
    refine (Sqrt_neg HJA.out hneg).mono ?_
    rintro e w21 ⟨rfl, hb21⟩
    clear a0 a1 hneg
    go_upto_region 23 with fail
    obtain ⟨w22, hw22⟩ : ∃ W, W = w21.alloc (.cells #[.bool false, .slice none 0 0] 24) := ⟨_, rfl⟩
    have hq : Below w21.heap.size w21 w22 := by rw [hw22]; exact ba (b0 _) _
    rw [← hw22]
    clear hw22
    have hr := bt hb21 hq
    have xHJA := Lib.hid (HJA.out.below hr)
    clear HJA
    have HJA := xHJA
    clear xHJA
    have xHIA := Lib.hid (HIA.out.below hr)
    clear HIA
    have HIA := xHIA
    clear xHIA
    have xHTT := Lib.hid (HTT.out.below hr)
    clear HTT
    have HTT := xHTT
    clear xHTT
    have xHK := Lib.hid (bt HK.out hr)
    clear HK
    have HK := xHK
    clear xHK
    clear hr hq hb21
    have a0 := HIA.out.c0
    have a1 := HIA.out.c1
    go_wp2_with fail
    refine (Sign_iv HJA.out HS0.out).mono ?_
    rintro e w23 ⟨rfl, hb23⟩
    go_wp2_with fail
    refine (sane_any w23 (HTT.out.below hb23)).mono ?_
    rintro e w24 ⟨rfl, hb24⟩
    go_wp2_with fail
    go_ret
    exact ⟨rfl, bt (bt HK.out hb23) hb24⟩
  · have hz0 : 0 ≤ za := by omega
    go_wp2_with fail
    refine (Sqrt_iv HJA.out hz0).mono ?_
    rintro e w21 ⟨r, hr0, hr1, hr2, n4, A4, c4, l4, rfl, hv4, hb21⟩
    have HR := Lib.hid (And.intro hr0 (And.intro hr1 hr2))
    have hLR : Lt 40 r := by
      have h1 : r ≤ za := by
        rcases Int.lt_or_le r 1 with h | h
        · omega
        · have := Int.mul_le_mul_of_nonneg_left h hr0
          omega
      have h2 : r.natAbs ≤ za.natAbs := by omega
      exact Nat.lt_of_le_of_lt h2 HTA.out
    have HLR := Lib.hid hLR
    have V4 := Lib.hid hv4
    obtain ⟨s0, hs0⟩ : ∃ x, x = cmpI za 0 := ⟨_, rfl⟩
    have hs1 : ¬ s0 < 0 := by rw [hs0]; exact cmpI_nn hz0
    have HS0 := Lib.hid hs0.symm
    clear hr0 hr1 hr2 hv4 a0 a1 hneg hs0 hLR
    go_upto_region 23 with fail
    obtain ⟨w22, hw22⟩ : ∃ W, W = w21.alloc (.cells #[.bool n4, .slice A4 l4.length c4] 24) := ⟨_, rfl⟩
    have Y4 : Box2 w22 w21.heap.size (.bool n4) (.slice A4 l4.length c4) := by rw [hw22]; exact Box2.new _ _ _
    have hq : Below w21.heap.size w21 w22 := by rw [hw22]; exact ba (b0 _) _
    rw [← hw22]
    clear hw22
    have hr := bt hb21 hq
    have I4 := Lib.hid (IntAt.box Y4 (V4.out.below hq))
    have xV4 := Lib.hid (V4.out.below hq)
    clear V4 Y4
    have V4 := xV4
    clear xV4
    have xHJA := Lib.hid (HJA.out.below hr)
    clear HJA
    have HJA := xHJA
    clear xHJA
    have xHIA := Lib.hid (HIA.out.below hr)
    clear HIA
    have HIA := xHIA
    clear xHIA
    have xHTT := Lib.hid (HTT.out.below hr)
    clear HTT
    have HTT := xHTT
    clear xHTT
    have xHK := Lib.hid (bt HK.out hr)
    clear HK
    have HK := xHK
    clear xHK
    clear hr hq hb21
    have a0 := HIA.out.c0
    have a1 := HIA.out.c1
    go_wp2_with fail
    refine (Sign_iv HJA.out HS0.out).mono ?_
    rintro e w23 ⟨rfl, hb23⟩
    clear a0 a1
    have xHJA := Lib.hid (HJA.out.below hb23)
    clear HJA
    have HJA := xHJA
    clear xHJA
    have xHIA := Lib.hid (HIA.out.below hb23)
    clear HIA
    have HIA := xHIA
    clear xHIA
    have xHTT := Lib.hid (HTT.out.below hb23)
    clear HTT
    have HTT := xHTT
    clear xHTT
    have xHK := Lib.hid (bt HK.out hb23)
    clear HK
    have HK := xHK
    clear xHK
    have xV4 := Lib.hid (V4.out.below hb23)
    clear V4
    have V4 := xV4
    clear xV4
    have xI4 := Lib.hid (I4.out.below hb23)
    clear I4
    have I4 := xI4
    clear xI4
    clear hb23
    go_upto_region 25 with fail
    clear hs1 HS0
    have hsz4 : w21.heap.size < w23.heap.size := I4.out.lt
    go_cut [28] (fun s wx => OneAt w23 (r + 1) s wx)
    case first =>
      as_aux_lemma =>
      have HS5 : Hid (∀ W, Below w23.heap.size w23 W → W.cell? ⟨w21.heap.size, 0, none⟩ = some (.bool n4) ∧ W.cell? ⟨w21.heap.size, 1, none⟩ = some (.slice A4 l4.length c4)) := fun W hb => ⟨cell_below I4.out.c0 hb, cell_below I4.out.c1 hb⟩
      go_region_held3 (fun W => W.cell? ⟨w21.heap.size, 0, none⟩ = some (.bool n4) ∧ W.cell? ⟨w21.heap.size, 1, none⟩ = some (.slice A4 l4.length c4))
        ((refine HS5.out _ ?_; (repeat (first | assumption | exact b0 _ | apply ba | apply bd | apply bw | (refine bs ?_ (by first | exact Nat.le_refl _ | (dsimp only; omega) | omega) _)))))
        (first
          | (go_at_call 19; refine (Of_iv _ 1 (by decide) (by decide)).mono ?_; rintro e w30 ⟨n30, A30, c30, l30, rfl, hv30, hb30⟩; obtain ⟨hcc30, hff30⟩ := bcell hb30; have R30 := Lib.hid hv30; clear hv30; have hK30 : Below w23.heap.size w23 w30 := bt (by repeat (first | assumption | exact b0 _ | apply ba | apply bd | apply bw)) hb30; have sz30 := hK30.size; have sy30 := hb30.size; (try simp at sy30); (try have sw30 : w23.heap.size < w30.heap.size := by omega))
          | (go_at_call 17; refine (Add_ow (V4.out.below (bt hK30 (by repeat (first | assumption | exact b0 _ | apply ba | apply bd | apply bw)))) (R30.out.below (by repeat (first | assumption | exact b0 _ | apply ba | apply bd | apply bw))) (z := r + 1) rfl).mono ?_; rintro e w31 ⟨n31, A31, c31, l31, rfl, hc31, ho31, hB31, hz31, hb31⟩; have g7 := fun (p : Nat) h => ho31.off_ (g := p) h; have HG7 := Lib.hid g7; clear g7; have O31 := Lib.hid (And.intro ho31.ws (And.intro hB31 hz31)); clear ho31 hB31 hz31; have hb301 : Below w30.heap.size w30 w31 := bt (by repeat (first | assumption | exact b0 _ | apply ba | apply bd | apply bw)) hb31; have hK31 := bt hK30 hb301; obtain ⟨hcc31, hff31⟩ := bcell hb31; have sz31 := hK31.size; have sx31 := hb301.size; have sy31 := hb31.size; (try simp at sy31); (try have sw31 : w30.heap.size < w31.heap.size := by omega); (try have su31 : w23.heap.size < w31.heap.size := by omega)))
      all_goals (go_wp2_with fail; go_meet)
      all_goals
        have hw7 := O31.out.1
        have hB7 := O31.out.2.1
        have hz7 := O31.out.2.2
        have g7 := HG7.out
        have G7 := fun (p : Nat) (h : w31.heap.size ≤ p) => O31.out.1.off h
        refine ⟨_, n31, A31, c31, l31, rfl, ?_, ?_⟩
        · repeat (first
            | (with_reducible refine IntAt.new' hc31 hB7 hz7 ?_ ?_)
            | (with_reducible refine IntAt.store' hc31 hB7 hz7 ?_ ?_ ?_)
            | (with_reducible refine IntAt.alloc ?_ _)
            | (with_reducible refine IntAt.far ?_ ?_ ?_ _ _))
          all_goals (repeat (first
            | with_reducible exact hw7
            | (with_reducible refine WS.below ?_ (ba (b0 _) _))
            | (with_reducible refine WS.two ?_ ?_ _ _)
            | (focus ((with_reducible refine Box2.new' ?_); (simp; done)))
            | (with_reducible refine Box2.alloc ?_ _)
            | (with_reducible refine Box2.far ?_ ?_ _ _)
            | (with_reducible refine Box2.below ?_ hb31)
            | (with_reducible refine Box2.below ?_ hb30)
            | exact G7 _ (by omega)
            | exact g7 _ (by first | (simp; done) | (simp; omega) | omega)
            | omega
            | (focus (simp; done))
            | (with_reducible refine Box2.drew' ?_)))
        · repeat (first | exact hK31 | (with_reducible refine ba ?_ _) | (with_reducible refine bs ?_ ?_ _))
          all_goals (first | exact Nat.le_refl _ | (dsimp only; omega) | omega)
    case rest =>
    obtain ⟨p5, n5, A5, c5, l5, rfl, I5', hb24⟩ := hcut
    obtain ⟨w24, hw24⟩ : ∃ v, v = wc := ⟨_, rfl⟩
    rw [← hw24] at I5' hb24 ⊢
    clear hw24 wc hsz4
    have hL5 : Lt 42 (r + 1) := lt_le (lt_add HLR.out (lt_one (z := 1) (by decide))) (by decide)
    have HL5 := Lib.hid hL5
    have V5 := Lib.hid (I5'.iv (lt_le hL5 (by decide)))
    have I5 := Lib.hid I5'
    clear I5' hL5
    have xHJA := Lib.hid (HJA.out.below hb24)
    clear HJA
    have HJA := xHJA
    clear xHJA
    have xHIA := Lib.hid (HIA.out.below hb24)
    clear HIA
    have HIA := xHIA
    clear xHIA
    have xHTT := Lib.hid (HTT.out.below hb24)
    clear HTT
    have HTT := xHTT
    clear xHTT
    have xHK := Lib.hid (bt HK.out hb24)
    clear HK
    have HK := xHK
    clear xHK
    have xV4 := Lib.hid (V4.out.below hb24)
    clear V4
    have V4 := xV4
    clear xV4
    have xI4 := Lib.hid (I4.out.below hb24)
    clear I4
    have I4 := xI4
    clear xI4
    clear hb24
    have HS5 : Hid (∀ W, Below w24.heap.size w24 W → W.cell? ⟨w.heap.size, 0, none⟩ = some (.bool na) ∧ W.cell? ⟨w.heap.size, 1, none⟩ = some (.slice A l.length ca) ∧ W.cell? ⟨w21.heap.size, 0, none⟩ = some (.bool n4) ∧ W.cell? ⟨w21.heap.size, 1, none⟩ = some (.slice A4 l4.length c4) ∧ W.cell? ⟨p5, 0, none⟩ = some (.bool n5) ∧ W.cell? ⟨p5, 1, none⟩ = some (.slice A5 l5.length c5)) := fun W hb => ⟨cell_below HIA.out.c0 hb, cell_below HIA.out.c1 hb, cell_below I4.out.c0 hb, cell_below I4.out.c1 hb, cell_below I5.out.c0 hb, cell_below I5.out.c1 hb⟩
    obtain ⟨hr0, hr1, hr2⟩ := HR.out
    obtain ⟨s1, hs1⟩ : ∃ x, x = cmpI r 0 := ⟨_, rfl⟩
    have hs2 : 0 ≤ s1 := by rw [hs1]; have := cmpI_nn hr0; omega
    have hs3 : decide (0 ≤ s1) = true := decide_eq_true hs2
    obtain ⟨u1, hu1⟩ : ∃ x, x = cmpI (r * r) za := ⟨_, rfl⟩
    have hu2 : u1 ≤ 0 := by rw [hu1]; exact cmpI_le.2 hr1
    have hu3 : decide (u1 ≤ 0) = true := decide_eq_true hu2
    obtain ⟨t1, ht1⟩ : ∃ x, x = cmpI ((r + 1) * (r + 1)) za := ⟨_, rfl⟩
    have ht2 : 0 < t1 := by rw [ht1]; exact cmpI_gt.2 hr2
    have ht3 : decide (0 < t1) = true := decide_eq_true ht2
    have HSV := Lib.hid hs1.symm
    have HUV := Lib.hid hu1.symm
    have HTV := Lib.hid ht1.symm
    clear hs1 hu1 ht1 hr0 hr1 hr2
    have tokM : True := trivial
    have tokC : True := trivial
    go_upto_region 26 with fail
    go_region_held3 (fun W => W.cell? ⟨w.heap.size, 0, none⟩ = some (.bool na) ∧ W.cell? ⟨w.heap.size, 1, none⟩ = some (.slice A l.length ca) ∧ W.cell? ⟨w21.heap.size, 0, none⟩ = some (.bool n4) ∧ W.cell? ⟨w21.heap.size, 1, none⟩ = some (.slice A4 l4.length c4) ∧ W.cell? ⟨p5, 0, none⟩ = some (.bool n5) ∧ W.cell? ⟨p5, 1, none⟩ = some (.slice A5 l5.length c5))
      (first | (refine HS5.out _ ?_; (first | assumption | exact bd (b0 _) _ | exact b0 _)))
      (first
        | (go_at_call 10; refine (sane_any _ (HTT.out.below (bd (b0 _) _))).mono ?_; rintro e w40 ⟨rfl, hb40⟩; have hK40 := bdn hb40)
        | (go_at_call 23; refine (Sign_iv (V4.out.below hK40) HSV.out).mono ?_; rintro e w41 ⟨rfl, hb41⟩; have hK41 := bt hK40 hb41)
        | (go_at_call 18; clear tokM; refine (Mul_iv (V4.out.below hK41) (V4.out.below hK41) (z := r * r) rfl (lt_le (lt_mul HLR.out HLR.out) (by decide))).mono ?_; rintro e w42 ⟨n42, A42, c42, l42, rfl, hv42, hb42⟩; have R42 := Lib.hid hv42; clear hv42; have hK42 := bt hK41 hb42)
        | (go_at_call 22; clear tokC; refine (Cmp_iv R42.out (HJA.out.below hK42) HUV.out).mono ?_; rintro e w43 ⟨rfl, hb43⟩; have hK43 := bt hK42 hb43)
        | (go_at_call 18; refine (Mul_iv (V5.out.below hK43) (V5.out.below hK43) (z := (r + 1) * (r + 1)) rfl (lt_le (lt_mul HL5.out HL5.out) (by decide))).mono ?_; rintro e w44 ⟨n44, A44, c44, l44, rfl, hv44, hb44⟩; have R44 := Lib.hid hv44; clear hv44; have hK44 := bt hK43 hb44)
        | (go_at_call 22; refine (Cmp_iv R44.out (HJA.out.below hK44) HTV.out).mono ?_; rintro e w45 ⟨rfl, hb45⟩; have hK45 := bt hK44 hb45))
    go_wp2_with fail
    go_ret
    exact ⟨rfl, bt HK.out hK45⟩
end Go.Proofs.YtaaipcjbmdbndaaDoor
