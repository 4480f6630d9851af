/- The law's sane. -/
import Derived.Test.YtgljdfblgpdaaaaGreatDoorPbComB
import Derived.Test.YtgljdfblgpdaaaaGreatDoorPbRatL
import Derived.Test.YtgljdfblgpdaaaaGreatDoorPbRefX
import Derived.Test.YtgljdfblgpdaaaaGreatDoorPbRatP
set_option linter.unusedSimpArgs false
set_option linter.unusedVariables false
set_option maxRecDepth 100000
set_option maxHeartbeats 4000000
namespace Go.Proofs.YtgljdfblgpdaaaaGreatDoor
open Go.RowKit Go.Shelf
variable {A B : Option Addr} {c d : Nat} {k l : List Nat} {m n : Bool} {w : World} {x z : Int}
theorem of_can (w : World) (i j : Int) (hc : Can i j) (hi : -9223372036854775808 ≤ i ∧ i ≤ 9223372036854775807) (hj : j ≤ 9223372036854775807) :
  Calls Tryz.prog 63 #[.int .i64 i, .int .i64 j] w (RIQ w i j) := by
 have h := of_iv w i j hi ⟨by have := hc.1; omega, hj⟩ (by have := hc.1; omega)
 rwa [(f_can hc).1, (f_can hc).2] at h
theorem fit_s {v j : Nat} (hv : v ≤ 8) (hj : j ≤ 3) : v ^ j < BB 4200 :=
 Nat.lt_of_le_of_lt (Nat.le_trans (Nat.pow_le_pow_left hv j) (Nat.pow_le_pow_right (by decide) hj)) (Nat.lt_of_lt_of_le (show 8 ^ 3 < BB 1 by unfold BB; decide) (BB_mono (by decide)))
theorem lt120 (h : z.natAbs < 4294967296) : Lt 120 z := lt_le (lt_one h) (by decide)
theorem lt10 (h : z.natAbs < 4294967296) : Lt 10 z := lt_le (lt_one h) (by decide)
theorem Same_kv (h : KV w n A l x) (h2 : IV w m B d k x) :
  Calls Tryz.prog 17 #[.agg #[.bool n, .slice A l.length c], .agg #[.bool m, .slice B k.length d]] w fun e w' => e = .returned (.bool true) ∧ Below w.heap.size w w' := by
 have e1 := h.len
 have e2 := h2.len
 exact same_of h.ws h2.ws h.can h2.can h.val h2.val (by omega) (by omega)
theorem RQSame_kv {x y : Int} (h : KV w n A l x) (h2 : KV w m B k y) {n' m' : Bool} {A' B' : Option Addr} {c' d' : Nat} {l' k' : List Nat} (h3 : IV w n' A' c' l' x) (h4 : IV w m' B' d' k' y) :
  Calls Tryz.prog 32 #[.agg #[.bool n, .slice A l.length c, .bool m, .slice B k.length d], .agg #[.bool n', .slice A' l'.length c', .bool m', .slice B' k'.length d']] w fun e w' => e = .returned (.bool true) ∧ Below w.heap.size w w' := by
 have H1 := Hi h
 have H2 := Hi h2
 have H3 := Hi h3
 have H4 := Hi h4
 clear h h2 h3 h4
 obtain ⟨W1, hW1, hw1, x0, x1⟩ := hdQQ w n A c l m B d k n' A' c' l' m' B' d' k'
 go_enter Tryz.func32, Tryz.ntmps32
 go_wp2_with fail
 rw [← hW1]
 clear hW1
 refine (Same_kv (H1.out.below hw1) (H3.out.below hw1)).mono ?_
 rintro e wa ⟨rfl, hb⟩
 replace x0 := x0.below hb
 replace x1 := x1.below hb
 have hw1_ := bt hw1 hb
 clear hb hw1
 refine g01 ?_
 intros
 refine (Same_kv (H2.out.below hw1_) (H4.out.below hw1_)).mono ?_
 rintro e wb ⟨rfl, hb⟩
 replace x0 := x0.below hb
 replace x1 := x1.below hb
 exact mafd61
theorem sane2 (w : World) (hT : Tens w) :
  Calls Tryz.prog 26 #[] w fun e w' => e = .returned (.bool true) ∧ Below w.heap.size w w' := by
 have HTn := Hi hT
 clear hT
 have hw0 : Below w.heap.size w w := b0 w
 go_enter Tryz.func26, Tryz.ntmps26
 go_wp2_with fail
 refine (QOf_neg _ 6 (-4) (by decide) (by decide) (by decide)).mono ?_
 rintro e w1 ⟨n1, A1, c1, l1, n2, A2, c2, l2, rfl, i1, i2, hb⟩
 have hw1_ := bt hw0 hb
 have Bhw1_ := Hi hb
 clear hb hw0
 rw [show fN 6 (-4) = -3 by unfold fN; simp] at i1
 have I1 := Hi i1
 clear i1
 rw [show fD 6 (-4) = 2 by unfold fD; simp] at i2
 have I2 := Hi i2
 clear i2
 go_wp2_with fail
 obtain ⟨v1, hw, xa, hb⟩ := nb4 w1 n1 A1 c1 l1 n2 A2 c2 l2
 rw [← hw]
 clear hw
 have hw2_ := bt hw1_ hb
 have Bhw2_ := Hi hb
 clear hb hw1_
 refine (ROf_iv _ 6 (by decide) (by decide)).mono ?_
 rintro e w2 ⟨n3, A3, c3, l3, rfl, i3, hb⟩
 replace xa := xa.below hb
 have hw3_ := bt hw2_ hb
 have Bhw3_ := Hi hb
 clear hb hw2_
 have I3 := Hi i3
 clear i3
 go_wp2_with fail
 refine (ROf_iv _ (-4) (by decide) (by decide)).mono ?_
 rintro e w3 ⟨n4, A4, c4, l4, rfl, i4, hb⟩
 replace xa := xa.below hb
 have hw4_ := bt hw3_ hb
 have Bhw4_ := Hi hb
 clear hb hw3_
 have I4 := Hi i4
 clear i4
 go_wp2_with fail
 refine (Make_neg I3.out.b I4.out.b (by decide)).mono ?_
 rintro e w4 ⟨n5, A5, c5, l5, n6, A6, c6, l6, rfl, i5, i6, hb⟩
 replace xa := xa.below hb
 have hw5_ := bt hw4_ hb
 have Bhw5_ := Hi hb
 clear hb hw4_
 rw [show fN 6 (-4) = -3 by unfold fN; simp] at i5
 have I5 := Hi i5
 clear i5
 rw [show fD 6 (-4) = 2 by unfold fD; simp] at i6
 have I6 := Hi i6
 clear i6
 go_wp2_with fail
 obtain ⟨v2, hw, xb, hb⟩ := nb4 w4 n5 A5 c5 l5 n6 A6 c6 l6
 rw [← hw]
 clear hw
 replace xa := xa.below hb
 have hw6_ := bt hw5_ hb
 have Bhw6_ := Hi hb
 clear hb hw5_
 refine (of_can _ 1 2 (show Can 1 2 from ⟨by decide, by simp⟩) (by decide) (by decide)).mono ?_
 rintro e w5 ⟨n7, A7, c7, l7, n8, A8, c8, l8, rfl, i7, i8, hb⟩
 replace xa := xa.below hb
 replace xb := xb.below hb
 have hw7_ := bt hw6_ hb
 have Bhw7_ := Hi hb
 clear hb hw6_
 have I7 := Hi i7
 clear i7
 have I8 := Hi i8
 clear i8
 go_wp2_with fail
 refine (of_can _ (-1) 4 (show Can (-1) 4 from ⟨by decide, by simp⟩) (by decide) (by decide)).mono ?_
 rintro e w6 ⟨n9, A9, c9, l9, n10, A10, c10, l10, rfl, i9, i10, hb⟩
 replace xa := xa.below hb
 replace xb := xb.below hb
 have hw8_ := bt hw7_ hb
 have Bhw8_ := Hi hb
 clear hb hw7_
 have I9 := Hi i9
 clear i9
 have I10 := Hi i10
 clear i10
 go_wp2_with fail
 refine (QDiv_neg I7.out.b I8.out.b I9.out.b I10.out.b (show Can 1 2 from ⟨by decide, by simp⟩) (show Can (-1) 4 from ⟨by decide, by simp⟩) (lt120 (by decide)) (lt120 (by decide)) (lt120 (by decide)) (lt120 (by decide)) (by decide)).mono ?_
 rintro e w7 ⟨n11, A11, c11, l11, n12, A12, c12, l12, rfl, i11, i12, hb⟩
 replace xa := xa.below hb
 replace xb := xb.below hb
 have hw9_ := bt hw8_ hb
 have Bhw9_ := Hi hb
 clear hb hw8_
 rw [show fN (1 * 4) (2 * -1) = -2 by unfold fN; simp] at i11
 have I11 := Hi i11
 clear i11
 rw [show fD (1 * 4) (2 * -1) = 1 by unfold fD; simp] at i12
 have I12 := Hi i12
 clear i12
 go_wp2_with fail
 obtain ⟨v3, hw, xc, hb⟩ := nb4 w7 n11 A11 c11 l11 n12 A12 c12 l12
 rw [← hw]
 clear hw
 replace xa := xa.below hb
 replace xb := xb.below hb
 have hw10_ := bt hw9_ hb
 have Bhw10_ := Hi hb
 clear hb hw9_
 refine (of_can _ (-2) 3 (show Can (-2) 3 from ⟨by decide, by simp⟩) (by decide) (by decide)).mono ?_
 rintro e w8 ⟨n13, A13, c13, l13, n14, A14, c14, l14, rfl, i13, i14, hb⟩
 replace xa := xa.below hb
 replace xb := xb.below hb
 replace xc := xc.below hb
 have hw11_ := bt hw10_ hb
 have Bhw11_ := Hi hb
 clear hb hw10_
 have I13 := Hi i13
 clear i13
 have I14 := Hi i14
 clear i14
 go_wp2_with fail
 obtain ⟨e13a, e13⟩ := canon_eq I13.out.ws.1 (l2 := [2]) (n2 := true) (by simp) I13.out.can (by decide) (by rw [I13.out.val]; decide)
 obtain ⟨e14a, e14⟩ := canon_eq I14.out.ws.1 (l2 := [3]) (n2 := false) (by simp) I14.out.can (by decide) (by rw [I14.out.val]; decide)
 subst e13 e14
 refine (QPow_bign I13.out.b I14.out.b (z := -3) (e := 3) (by decide) (by decide) (by decide) ⟨by decide, fun j hj => fit_s (by decide) hj, by decide⟩ ⟨by decide, fun j hj => fit_s (by decide) hj, by decide⟩ (by decide) (by decide) (by decide)).mono ?_
 rintro e w9 ⟨n15, A15, c15, l15, n16, A16, c16, l16, rfl, i15, i16, hb⟩
 replace xa := xa.below hb
 replace xb := xb.below hb
 replace xc := xc.below hb
 have hw12_ := bt hw11_ hb
 have Bhw12_ := Hi hb
 clear hb hw11_
 rw [show (-(3 : Int)) ^ 3 = -27 by decide] at i15
 have I15 := Hi i15
 clear i15
 rw [show (-(-2 : Int)) ^ 3 = 8 by decide] at i16
 have I16 := Hi i16
 clear i16
 go_wp2_with fail
 replace I15 := Hi (I15.out.b.iv (lt_le (lt_one (by decide)) (by decide)))
 replace I16 := Hi (I16.out.b.iv (lt_le (lt_one (by decide)) (by decide)))
 obtain ⟨v4, hw, xp, hb⟩ := nb4 w9 n15 A15 c15 l15 n16 A16 c16 l16
 rw [← hw]
 clear hw
 replace xa := xa.below hb
 replace xb := xb.below hb
 replace xc := xc.below hb
 have hw13_ := bt hw12_ hb
 have Bhw13_ := Hi hb
 clear hb hw12_
 refine (of_can _ 1 6 (show Can 1 6 from ⟨by decide, by simp⟩) (by decide) (by decide)).mono ?_
 rintro e w10 ⟨n17, A17, c17, l17, n18, A18, c18, l18, rfl, i17, i18, hb⟩
 replace xa := xa.below hb
 replace xb := xb.below hb
 replace xc := xc.below hb
 replace xp := xp.below hb
 have hw14_ := bt hw13_ hb
 have Bhw14_ := Hi hb
 clear hb hw13_
 have I17 := Hi i17
 clear i17
 have I18 := Hi i18
 clear i18
 go_wp2_with fail
 refine (of_can _ (-3) 4 (show Can (-3) 4 from ⟨by decide, by simp⟩) (by decide) (by decide)).mono ?_
 rintro e w11 ⟨n19, A19, c19, l19, n20, A20, c20, l20, rfl, i19, i20, hb⟩
 replace xa := xa.below hb
 replace xb := xb.below hb
 replace xc := xc.below hb
 replace xp := xp.below hb
 have hw15_ := bt hw14_ hb
 have Bhw15_ := Hi hb
 clear hb hw14_
 have I19 := Hi i19
 clear i19
 have I20 := Hi i20
 clear i20
 go_wp2_with fail
 refine (of_can _ 2 1 (show Can 2 1 from ⟨by decide, by simp⟩) (by decide) (by decide)).mono ?_
 rintro e w12 ⟨n21, A21, c21, l21, n22, A22, c22, l22, rfl, i21, i22, hb⟩
 replace xa := xa.below hb
 replace xb := xb.below hb
 replace xc := xc.below hb
 replace xp := xp.below hb
 have hw16_ := bt hw15_ hb
 have Bhw16_ := Hi hb
 clear hb hw15_
 have I21 := Hi i21
 clear i21
 have I22 := Hi i22
 clear i22
 go_wp2_with fail
 obtain ⟨v5, hw⟩ : ∃ W, W = w12.alloc (.cells #[.bool n17, .slice A17 l17.length c17, .bool n18, .slice A18 l18.length c18, .bool n19, .slice A19 l19.length c19, .bool n20, .slice A20 l20.length c20, .bool n21, .slice A21 l21.length c21, .bool n22, .slice A22 l22.length c22] 35) := ⟨_, rfl⟩
 have xl : Cells v5 w12.heap.size 35 #[.bool n17, .slice A17 l17.length c17, .bool n18, .slice A18 l18.length c18, .bool n19, .slice A19 l19.length c19, .bool n20, .slice A20 l20.length c20, .bool n21, .slice A21 l21.length c21, .bool n22, .slice A22 l22.length c22] := by rw [hw]; exact Cells.new _ _ _
 have hb : Below w12.heap.size w12 v5 := by rw [hw]; exact ba (b0 _) _
 rw [← hw]
 clear hw
 replace xa := xa.below hb
 replace xb := xb.below hb
 replace xc := xc.below hb
 replace xp := xp.below hb
 have hw17_ := bt hw16_ hb
 have Bhw17_ := Hi hb
 clear hb hw16_
 have hQL : QL v5 (some ⟨w12.heap.size, 0, none⟩) [(1, 6), (-3, 4), (2, 1)] := fun _ => ⟨w12.heap.size, 0, rfl, xl.lt, fun i hi => by
  match i, hi with
  | 0, _ => exact ⟨n17, A17, c17, l17, n18, A18, c18, l18, by rw [Cells.at_ xl]; rfl, by rw [Cells.at_ xl]; rfl, by rw [Cells.at_ xl]; rfl, by rw [Cells.at_ xl]; rfl, I17.out.b, I18.out.b⟩
  | 1, _ => exact ⟨n19, A19, c19, l19, n20, A20, c20, l20, by rw [Cells.at_ xl]; rfl, by rw [Cells.at_ xl]; rfl, by rw [Cells.at_ xl]; rfl, by rw [Cells.at_ xl]; rfl, I19.out.b, I20.out.b⟩
  | 2, _ => exact ⟨n21, A21, c21, l21, n22, A22, c22, l22, by rw [Cells.at_ xl]; rfl, by rw [Cells.at_ xl]; rfl, by rw [Cells.at_ xl]; rfl, by rw [Cells.at_ xl]; rfl, I21.out.b, I22.out.b⟩
  | i + 3, hi => simp at hi; omega⟩
 have hCo := Common_any v5 (some ⟨w12.heap.size, 0, none⟩) 3 [(1, 6), (-3, 4), (2, 1)] hQL (by decide) (fun i hi => by
  match i, hi with
  | 0, _ => exact ⟨⟨by decide, by simp⟩, lt10 (by decide), lt10 (by decide)⟩
  | 1, _ => exact ⟨⟨by decide, by simp⟩, lt10 (by decide), lt10 (by decide)⟩
  | 2, _ => exact ⟨⟨by decide, by simp⟩, lt10 (by decide), lt10 (by decide)⟩
  | i + 3, hi => simp at hi; omega)
 rw [show LM ([((1 : Int), (6 : Int)), (-3, 4), (2, 1)].map fun p => p.2.toNat) = 12 by simp [LM, Nat.lcm]] at hCo
 rw [show ([((1 : Int), (6 : Int)), (-3, 4), (2, 1)].map fun p => p.1 * (((12 : Nat) : Int) / p.2)) = [2, -9, 24] by simp] at hCo
 have HCo := Hi hCo
 clear hCo hQL xl
 refine HCo.out.mono ?_
 rintro e w13 ⟨g, n23, A23, c23, l23, rfl, hgg, hcl, i23, hb⟩
 clear HCo
 replace xa := xa.below hb
 replace xb := xb.below hb
 replace xc := xc.below hb
 replace xp := xp.below hb
 have hw18_ := bt hw17_ hb
 have Bhw18_ := Hi hb
 clear hb hw17_
 have HCL := Hi hcl
 have I23 := Hi i23
 clear hcl i23
 go_wp2_with fail
 obtain ⟨v6, hw⟩ : ∃ W, W = w13.alloc (.cells #[.bool n23, .slice A23 l23.length c23] 24) := ⟨_, rfl⟩
 have xd : Box2 v6 (w13.heap.size) (.bool n23) (.slice A23 l23.length c23) := by
  rw [hw]
  have h := Box2.new w13 (.bool n23) (.slice A23 l23.length c23)
  exact h
 have hb : Below w13.heap.size w13 v6 := by rw [hw]; exact ba (b0 _) _
 rw [← hw]
 clear hw
 replace xa := xa.below hb
 replace xb := xb.below hb
 replace xc := xc.below hb
 replace xp := xp.below hb
 replace HCL := Hi (HCL.out.below hb)
 have hw19_ := bt hw18_ hb
 have Bhw19_ := Hi hb
 clear hb hw18_
 refine (of_can _ 3 10 (show Can 3 10 from ⟨by decide, by simp⟩) (by decide) (by decide)).mono ?_
 rintro e w14 ⟨n24, A24, c24, l24, n25, A25, c25, l25, rfl, i24, i25, hb⟩
 replace xa := xa.below hb
 replace xb := xb.below hb
 replace xc := xc.below hb
 replace xp := xp.below hb
 replace xd := xd.below hb
 replace HCL := Hi (HCL.out.below hb)
 have hw20_ := bt hw19_ hb
 have Bhw20_ := Hi hb
 clear hb hw19_
 have I24 := Hi i24
 clear i24
 have I25 := Hi i25
 clear i25
 go_wp2_with fail
 refine (of_can _ 2 5 (show Can 2 5 from ⟨by decide, by simp⟩) (by decide) (by decide)).mono ?_
 rintro e w15 ⟨n26, A26, c26, l26, n27, A27, c27, l27, rfl, i26, i27, hb⟩
 replace xa := xa.below hb
 replace xb := xb.below hb
 replace xc := xc.below hb
 replace xp := xp.below hb
 replace xd := xd.below hb
 replace HCL := Hi (HCL.out.below hb)
 have hw21_ := bt hw20_ hb
 have Bhw21_ := Hi hb
 clear hb hw20_
 have I26 := Hi i26
 clear i26
 have I27 := Hi i27
 clear i27
 go_wp2_with fail
 refine (QSim_pos I24.out.b I25.out.b I26.out.b I27.out.b (show Can 3 10 from ⟨by decide, by simp⟩) (show Can 2 5 from ⟨by decide, by simp⟩) ⟨lt10 (by decide), lt10 (by decide), lt10 (by decide), lt10 (by decide)⟩ ⟨by decide, by decide⟩).mono ?_
 rintro e w16 ⟨X, Y, hX, n28, A28, c28, l28, n29, A29, c29, l29, rfl, i28, i29, hb⟩
 obtain ⟨rfl, rfl⟩ : X = 1 ∧ Y = 3 := by
  have h1 := hX.least 1 3 (by decide) (by decide) (by decide) (by decide)
  have h2 := hX.pp
  have h3 := hX.pq
  have h4 := hX.lo
  have h5 := hX.hi
  omega
 clear hX
 replace xa := xa.below hb
 replace xb := xb.below hb
 replace xc := xc.below hb
 replace xp := xp.below hb
 replace xd := xd.below hb
 replace HCL := Hi (HCL.out.below hb)
 have hw22_ := bt hw21_ hb
 have Bhw22_ := Hi hb
 clear hb hw21_
 have I28 := Hi i28
 have I29 := Hi i29
 clear i28 i29
 go_wp2_with fail
 obtain ⟨v7, hw, xs, hb⟩ := nb4 w16 n28 A28 c28 l28 n29 A29 c29 l29
 rw [← hw]
 clear hw
 replace xa := xa.below hb
 replace xb := xb.below hb
 replace xc := xc.below hb
 replace xp := xp.below hb
 replace xd := xd.below hb
 replace HCL := Hi (HCL.out.below hb)
 have hw23_ := bt hw22_ hb
 have Bhw23_ := Hi hb
 clear hb hw22_
 have hPa := QParse_frac v7 ⟨#[45, 51, 47, 52]⟩ ⟨#[45, 51]⟩ ⟨#[52]⟩ 2 (x := -3) (y := 4) (by decide) (by decide) (by decide) (by rfl) (by rfl) (.inr ⟨by decide, [51], by rfl, by decide, ⟨by unfold isDg; decide, by decide⟩, by decide⟩) (.inr ⟨by decide, [52], by rfl, by decide, ⟨by unfold isDg; decide, by decide⟩, by decide⟩) ⟨by decide, by simp⟩ (by decide) ⟨by rw [ByteArray.toList_eq]; decide, by rw [ByteArray.toList_eq]; decide, by decide⟩ ⟨lt_le (lt_one (by decide)) (by decide), lt_le (lt_one (by decide)) (by decide)⟩ (HTn.out.below hw23_)
 refine hPa.mono ?_
 rintro e w17 ⟨n30, A30, c30, l30, n31, A31, c31, l31, rfl, i30, i31, hb⟩
 clear hPa
 replace xa := xa.below hb
 replace xb := xb.below hb
 replace xc := xc.below hb
 replace xp := xp.below hb
 replace xd := xd.below hb
 replace xs := xs.below hb
 replace HCL := Hi (HCL.out.below hb)
 have hw24_ := bt hw23_ hb
 have Bhw24_ := Hi hb
 clear hb hw23_
 have I30 := Hi i30
 have I31 := Hi i31
 clear i30 i31
 go_wp2_with fail
 obtain ⟨v8, hw, xt, hb⟩ := nb4 w17 n30 A30 c30 l30 n31 A31 c31 l31
 rw [← hw]
 clear hw
 replace xa := xa.below hb
 replace xb := xb.below hb
 replace xc := xc.below hb
 replace xp := xp.below hb
 replace xd := xd.below hb
 replace xs := xs.below hb
 replace HCL := Hi (HCL.out.below hb)
 have hw25_ := bt hw24_ hb
 have Bhw25_ := Hi hb
 clear hb hw24_
 obtain ⟨cur, hcur, _, _, hci⟩ := HCL.out
 obtain ⟨n40, A40, c40, l40, hc2, hc3, i40⟩ := hci 1 (by decide)
 have gc2 := (Cells.at_ hcur 2).trans hc2
 have gc3 := (Cells.at_ hcur 3).trans hc3
 have I40 := Hi (show IV _ n40 A40 c40 l40 (-9) from i40)
 have HGL := Hi hcur.lt
 clear hcur hci hc2 hc3 i40
 go_cut [16] (fun v wx => v = .bool true ∧ Below v8.heap.size v8 wx)
 case first =>
  as_aux_lemma =>
  have HC : Hid (∀ W, Below v8.heap.size v8 W → (W.cell? ⟨w1.heap.size, 0, none⟩ = some (.bool n1) ∧ W.cell? ⟨w1.heap.size, 1, none⟩ = some (.slice A1 l1.length c1) ∧ W.cell? ⟨w1.heap.size, 2, none⟩ = some (.bool n2) ∧ W.cell? ⟨w1.heap.size, 3, none⟩ = some (.slice A2 l2.length c2) ∧ W.cell? ⟨w4.heap.size, 0, none⟩ = some (.bool n5) ∧ W.cell? ⟨w4.heap.size, 1, none⟩ = some (.slice A5 l5.length c5) ∧ W.cell? ⟨w4.heap.size, 2, none⟩ = some (.bool n6) ∧ W.cell? ⟨w4.heap.size, 3, none⟩ = some (.slice A6 l6.length c6) ∧ W.cell? ⟨w7.heap.size, 0, none⟩ = some (.bool n11) ∧ W.cell? ⟨w7.heap.size, 1, none⟩ = some (.slice A11 l11.length c11) ∧ W.cell? ⟨w7.heap.size, 2, none⟩ = some (.bool n12) ∧ W.cell? ⟨w7.heap.size, 3, none⟩ = some (.slice A12 l12.length c12) ∧ W.cell? ⟨w9.heap.size, 0, none⟩ = some (.bool n15) ∧ W.cell? ⟨w9.heap.size, 1, none⟩ = some (.slice A15 l15.length c15) ∧ W.cell? ⟨w9.heap.size, 2, none⟩ = some (.bool n16) ∧ W.cell? ⟨w9.heap.size, 3, none⟩ = some (.slice A16 l16.length c16) ∧ W.cell? ⟨w13.heap.size, 0, none⟩ = some (.bool n23) ∧ W.cell? ⟨w13.heap.size, 1, none⟩ = some (.slice A23 l23.length c23) ∧ W.cell? ⟨w16.heap.size, 0, none⟩ = some (.bool n28) ∧ W.cell? ⟨w16.heap.size, 1, none⟩ = some (.slice A28 l28.length c28) ∧ W.cell? ⟨w16.heap.size, 2, none⟩ = some (.bool n29) ∧ W.cell? ⟨w16.heap.size, 3, none⟩ = some (.slice A29 l29.length c29) ∧ W.cell? ⟨w17.heap.size, 0, none⟩ = some (.bool n30) ∧ W.cell? ⟨w17.heap.size, 1, none⟩ = some (.slice A30 l30.length c30) ∧ W.cell? ⟨w17.heap.size, 2, none⟩ = some (.bool n31) ∧ W.cell? ⟨w17.heap.size, 3, none⟩ = some (.slice A31 l31.length c31) ∧ W.cell? ⟨g, 2, none⟩ = some (.bool n40) ∧ W.cell? ⟨g, 3, none⟩ = some (.slice A40 l40.length c40))) := Hi (fun W hb => ⟨cell_below xa.cell0 hb, cell_below xa.cell1 hb, cell_below xa.cell2 hb, cell_below xa.cell3 hb, cell_below xb.cell0 hb, cell_below xb.cell1 hb, cell_below xb.cell2 hb, cell_below xb.cell3 hb, cell_below xc.cell0 hb, cell_below xc.cell1 hb, cell_below xc.cell2 hb, cell_below xc.cell3 hb, cell_below xp.cell0 hb, cell_below xp.cell1 hb, cell_below xp.cell2 hb, cell_below xp.cell3 hb, cell_below xd.cell0 hb, cell_below xd.cell1 hb, cell_below xs.cell0 hb, cell_below xs.cell1 hb, cell_below xs.cell2 hb, cell_below xs.cell3 hb, cell_below xt.cell0 hb, cell_below xt.cell1 hb, cell_below xt.cell2 hb, cell_below xt.cell3 hb, cell_below gc2 hb, cell_below gc3 hb⟩)
  have HW := Hi hw25_
  have Gxa := Hi xa
  have Gxb := Hi xb
  have Gxc := Hi xc
  have Gxp := Hi xp
  have Gxd := Hi xd
  have Gxs := Hi xs
  have Gxt := Hi xt
  clear xa xb xc xp xd xs xt hw25_
  refine rgh HC fun hHeld => ?_
  refine tk 0 ?_
  refine cl 1 fun K hK => ?_
  go_simp
  go_at_call 63
  refine (of_can _ (-3) 2 (show Can (-3) 2 from ⟨by decide, by simp⟩) (by decide) (by decide)).mono ?_
  rintro e y1 ⟨n41, A41, c41, l41, n42, A42, c42, l42, rfl, i41, i42, hb⟩
  have HBy1 := Hi (bt (bw (b0 v8)) hb)
  have I41 := Hi i41
  have I42 := Hi i42
  clear hb i41 i42 hHeld
  refine rk hK (HC.out _ HBy1.out) fun hHeld => ?_
  clear hK K
  refine cl 2 fun K hK => ?_
  go_simp
  go_at_call 32
  refine (RQSame_iv (I1.out.b.below HBy1.out) (I2.out.b.below HBy1.out) I41.out I42.out).mono ?_
  rintro e y2 ⟨rfl, hb⟩
  have HBy2 := Hi (bt HBy1.out hb)
  clear hb  hHeld
  refine rk hK (HC.out _ HBy2.out) fun hHeld => ?_
  clear hK K
  refine tk 3 ?_
  refine tk 4 ?_
  refine tk 5 ?_
  refine cl 6 fun K hK => ?_
  go_simp
  go_at_call 32
  refine (RQSame_iv (I5.out.b.below HBy2.out) (I6.out.b.below HBy2.out) (I1.out.b.below HBy2.out) (I2.out.b.below HBy2.out)).mono ?_
  rintro e y3 ⟨rfl, hb⟩
  have HBy3 := Hi (bt HBy2.out hb)
  clear hb  hHeld
  refine rk hK (HC.out _ HBy3.out) fun hHeld => ?_
  clear hK K
  refine tk 7 ?_
  refine tk 8 ?_
  refine tk 9 ?_
  refine cl 10 fun K hK => ?_
  go_simp
  go_at_call 63
  refine (of_can _ (-2) 1 (show Can (-2) 1 from ⟨by decide, by simp⟩) (by decide) (by decide)).mono ?_
  rintro e y4 ⟨n43, A43, c43, l43, n44, A44, c44, l44, rfl, i43, i44, hb⟩
  have HBy4 := Hi (bt HBy3.out hb)
  have I43 := Hi i43
  have I44 := Hi i44
  clear hb i43 i44 hHeld
  refine rk hK (HC.out _ HBy4.out) fun hHeld => ?_
  clear hK K
  refine cl 11 fun K hK => ?_
  go_simp
  go_at_call 32
  refine (RQSame_iv (I11.out.b.below HBy4.out) (I12.out.b.below HBy4.out) I43.out I44.out).mono ?_
  rintro e y5 ⟨rfl, hb⟩
  have HBy5 := Hi (bt HBy4.out hb)
  clear hb  hHeld
  refine rk hK (HC.out _ HBy5.out) fun hHeld => ?_
  clear hK K
  refine tk 12 ?_
  refine tk 13 ?_
  refine tk 14 ?_
  refine cl 15 fun K hK => ?_
  go_simp
  go_at_call 63
  refine (of_can _ (-27) 8 (show Can (-27) 8 from ⟨by decide, by simp⟩) (by decide) (by decide)).mono ?_
  rintro e y6 ⟨n45, A45, c45, l45, n46, A46, c46, l46, rfl, i45, i46, hb⟩
  have HBy6 := Hi (bt HBy5.out hb)
  have I45 := Hi i45
  have I46 := Hi i46
  clear hb i45 i46 hHeld
  refine rk hK (HC.out _ HBy6.out) fun hHeld => ?_
  clear hK K
  refine cl 16 fun K hK => ?_
  go_simp
  go_at_call 32
  refine (RQSame_iv (I15.out.b.below HBy6.out) (I16.out.b.below HBy6.out) I45.out I46.out).mono ?_
  rintro e y7 ⟨rfl, hb⟩
  have HBy7 := Hi (bt HBy6.out hb)
  clear hb  hHeld
  refine rk hK (HC.out _ HBy7.out) fun hHeld => ?_
  clear hK K
  refine tk 17 ?_
  refine tk 18 ?_
  refine tk 19 ?_
  refine tk 20 ?_
  refine tk 21 ?_
  refine cl 22 fun K hK => ?_
  go_simp
  go_at_call 59
  refine (ROf_iv _ (-9) (by decide) (by decide)).mono ?_
  rintro e y8 ⟨n47, A47, c47, l47, rfl, i47, hb⟩
  have HBy8 := Hi (bt HBy7.out hb)
  have I47 := Hi i47
  clear hb i47 hHeld
  refine rk hK (HC.out _ HBy8.out) fun hHeld => ?_
  clear hK K
  refine cl 23 fun K hK => ?_
  go_simp
  go_at_call 17
  refine (Same_iv (I40.out.b.below HBy8.out) I47.out).mono ?_
  rintro e y9 ⟨rfl, hb⟩
  have HBy9 := Hi (bt HBy8.out hb)
  clear hb  hHeld
  refine rk hK (HC.out _ HBy9.out) fun hHeld => ?_
  clear hK K
  refine tk 24 ?_
  refine tk 25 ?_
  refine tk 26 ?_
  refine cl 27 fun K hK => ?_
  go_simp
  go_at_call 59
  refine (ROf_iv _ 12 (by decide) (by decide)).mono ?_
  rintro e y10 ⟨n48, A48, c48, l48, rfl, i48, hb⟩
  have HBy10 := Hi (bt HBy9.out hb)
  have I48 := Hi i48
  clear hb i48 hHeld
  refine rk hK (HC.out _ HBy10.out) fun hHeld => ?_
  clear hK K
  refine cl 28 fun K hK => ?_
  go_simp
  go_at_call 17
  refine (Same_iv (I23.out.b.below HBy10.out) I48.out).mono ?_
  rintro e y11 ⟨rfl, hb⟩
  have HBy11 := Hi (bt HBy10.out hb)
  clear hb  hHeld
  refine rk hK (HC.out _ HBy11.out) fun hHeld => ?_
  clear hK K
  refine tk 29 ?_
  refine tk 30 ?_
  refine tk 31 ?_
  refine cl 32 fun K hK => ?_
  go_simp
  go_at_call 63
  refine (of_can _ 1 3 (show Can 1 3 from ⟨by decide, by simp⟩) (by decide) (by decide)).mono ?_
  rintro e y12 ⟨n49, A49, c49, l49, n50, A50, c50, l50, rfl, i49, i50, hb⟩
  have HBy12 := Hi (bt HBy11.out hb)
  have I49 := Hi i49
  have I50 := Hi i50
  clear hb i49 i50 hHeld
  refine rk hK (HC.out _ HBy12.out) fun hHeld => ?_
  clear hK K
  refine cl 33 fun K hK => ?_
  go_simp
  go_at_call 32
  refine (RQSame_iv (I28.out.b.below HBy12.out) (I29.out.b.below HBy12.out) I49.out I50.out).mono ?_
  rintro e y13 ⟨rfl, hb⟩
  have HBy13 := Hi (bt HBy12.out hb)
  clear hb  hHeld
  refine rk hK (HC.out _ HBy13.out) fun hHeld => ?_
  clear hK K
  refine tk 34 ?_
  refine tk 35 ?_
  refine tk 36 ?_
  refine cl 37 fun K hK => ?_
  go_simp
  go_at_call 63
  refine (of_can _ (-3) 4 (show Can (-3) 4 from ⟨by decide, by simp⟩) (by decide) (by decide)).mono ?_
  rintro e y14 ⟨n51, A51, c51, l51, n52, A52, c52, l52, rfl, i51, i52, hb⟩
  have HBy14 := Hi (bt HBy13.out hb)
  have I51 := Hi i51
  have I52 := Hi i52
  clear hb i51 i52 hHeld
  refine rk hK (HC.out _ HBy14.out) fun hHeld => ?_
  clear hK K
  refine cl 38 fun K hK => ?_
  go_simp
  go_at_call 32
  refine (RQSame_kv (I30.out.b.below HBy14.out) (I31.out.b.below HBy14.out) I51.out I52.out).mono ?_
  rintro e y15 ⟨rfl, hb⟩
  have HBy15 := Hi (bt HBy14.out hb)
  clear hb  hHeld
  refine rk hK (HC.out _ HBy15.out) fun hHeld => ?_
  clear hK K
  refine tk 39 ?_
  refine tk 40 ?_
  refine wpAnyH_done (by kernel_rfl) ?_ _
  clear hHeld
  have xa := Gxa.out.below HBy15.out
  have xb := Gxb.out.below HBy15.out
  have xc := Gxc.out.below HBy15.out
  have xp := Gxp.out.below HBy15.out
  have xd := Gxd.out.below HBy15.out
  have xs := Gxs.out.below HBy15.out
  have xt := Gxt.out.below HBy15.out
  replace I1 := Hi (I1.out.b.below HBy15.out)
  replace I2 := Hi (I2.out.b.below HBy15.out)
  replace I3 := Hi (I3.out.b.below HBy15.out)
  replace I4 := Hi (I4.out.b.below HBy15.out)
  replace I5 := Hi (I5.out.b.below HBy15.out)
  replace I6 := Hi (I6.out.b.below HBy15.out)
  replace I7 := Hi (I7.out.b.below HBy15.out)
  replace I8 := Hi (I8.out.b.below HBy15.out)
  replace I9 := Hi (I9.out.b.below HBy15.out)
  replace I10 := Hi (I10.out.b.below HBy15.out)
  replace I11 := Hi (I11.out.b.below HBy15.out)
  replace I12 := Hi (I12.out.b.below HBy15.out)
  replace I13 := Hi (I13.out.b.below HBy15.out)
  replace I14 := Hi (I14.out.b.below HBy15.out)
  replace I15 := Hi (I15.out.b.below HBy15.out)
  replace I16 := Hi (I16.out.b.below HBy15.out)
  replace I17 := Hi (I17.out.b.below HBy15.out)
  replace I18 := Hi (I18.out.b.below HBy15.out)
  replace I19 := Hi (I19.out.b.below HBy15.out)
  replace I20 := Hi (I20.out.b.below HBy15.out)
  replace I21 := Hi (I21.out.b.below HBy15.out)
  replace I22 := Hi (I22.out.b.below HBy15.out)
  replace I23 := Hi (I23.out.b.below HBy15.out)
  replace I24 := Hi (I24.out.b.below HBy15.out)
  replace I25 := Hi (I25.out.b.below HBy15.out)
  replace I26 := Hi (I26.out.b.below HBy15.out)
  replace I27 := Hi (I27.out.b.below HBy15.out)
  replace I28 := Hi (I28.out.b.below HBy15.out)
  replace I29 := Hi (I29.out.b.below HBy15.out)
  replace I30 := Hi (I30.out.b.below HBy15.out)
  replace I31 := Hi (I31.out.b.below HBy15.out)
  replace I40 := Hi (I40.out.b.below HBy15.out)
  have hw26_ := bt HW.out HBy15.out
  go_wp2_with fail
  go_meet
  exact ⟨rfl, HBy15.out⟩
 case rest =>
 obtain ⟨rfl, hb⟩ := hcut
 obtain ⟨w20, hwn⟩ : ∃ v, v = wc := ⟨_, rfl⟩
 rw [← hwn] at hb ⊢
 clear hwn wc
 replace xa := xa.below hb
 replace xb := xb.below hb
 replace xc := xc.below hb
 replace xp := xp.below hb
 replace xd := xd.below hb
 replace xs := xs.below hb
 replace xt := xt.below hb
 have hw27_ := bt hw25_ hb
 have Bhw27_ := Hi hb
 clear hb hw25_
 go_wp2_with fail
 refine (of_can _ 1 6 (show Can 1 6 from ⟨by decide, by simp⟩) (by decide) (by decide)).mono ?_
 rintro e w31 ⟨n61, A61, c61, l61, n62, A62, c62, l62, rfl, i61, i62, hb⟩
 replace xa := xa.below hb
 replace xb := xb.below hb
 replace xc := xc.below hb
 replace xp := xp.below hb
 replace xd := xd.below hb
 replace xs := xs.below hb
 replace xt := xt.below hb
 have hw28_ := bt hw27_ hb
 have Bhw28_ := Hi hb
 clear hb hw27_
 have I61 := Hi i61
 clear i61
 have I62 := Hi i62
 clear i62
 go_wp2_with fail
 refine (of_can _ 1 10 (show Can 1 10 from ⟨by decide, by simp⟩) (by decide) (by decide)).mono ?_
 rintro e w32 ⟨n63, A63, c63, l63, n64, A64, c64, l64, rfl, i63, i64, hb⟩
 replace xa := xa.below hb
 replace xb := xb.below hb
 replace xc := xc.below hb
 replace xp := xp.below hb
 replace xd := xd.below hb
 replace xs := xs.below hb
 replace xt := xt.below hb
 have hw29_ := bt hw28_ hb
 have Bhw29_ := Hi hb
 clear hb hw28_
 have I63 := Hi i63
 clear i63
 have I64 := Hi i64
 clear i64
 go_wp2_with fail
 refine (QAdd_iv I61.out.b I62.out.b I63.out.b I64.out.b (show Can 1 6 from ⟨by decide, by simp⟩) (show Can 1 10 from ⟨by decide, by simp⟩) (lt120 (by decide)) (lt120 (by decide)) (lt120 (by decide)) (lt120 (by decide))).mono ?_
 rintro e w33 ⟨n65, A65, c65, l65, n66, A66, c66, l66, rfl, i65, i66, hb⟩
 replace xa := xa.below hb
 replace xb := xb.below hb
 replace xc := xc.below hb
 replace xp := xp.below hb
 replace xd := xd.below hb
 replace xs := xs.below hb
 replace xt := xt.below hb
 have hw30_ := bt hw29_ hb
 have Bhw30_ := Hi hb
 clear hb hw29_
 rw [show fN (1 * 10 + 1 * 6) (6 * 10) = 4 by unfold fN; simp] at i65
 have I65 := Hi i65
 clear i65
 rw [show fD (1 * 10 + 1 * 6) (6 * 10) = 15 by unfold fD; simp] at i66
 have I66 := Hi i66
 clear i66
 go_wp2_with fail
 refine (of_can _ 4 15 (show Can 4 15 from ⟨by decide, by simp⟩) (by decide) (by decide)).mono ?_
 rintro e w34 ⟨n67, A67, c67, l67, n68, A68, c68, l68, rfl, i67, i68, hb⟩
 replace xa := xa.below hb
 replace xb := xb.below hb
 replace xc := xc.below hb
 replace xp := xp.below hb
 replace xd := xd.below hb
 replace xs := xs.below hb
 replace xt := xt.below hb
 have hw31_ := bt hw30_ hb
 have Bhw31_ := Hi hb
 clear hb hw30_
 have I67 := Hi i67
 clear i67
 have I68 := Hi i68
 clear i68
 go_wp2_with fail
 refine (RQSame_iv I65.out.b I66.out.b I67.out.b I68.out.b).mono ?_
 rintro e w35 ⟨rfl, hb⟩
 replace xa := xa.below hb
 replace xb := xb.below hb
 replace xc := xc.below hb
 replace xp := xp.below hb
 replace xd := xd.below hb
 replace xs := xs.below hb
 replace xt := xt.below hb
 have hw32_ := bt hw31_ hb
 have Bhw32_ := Hi hb
 clear hb hw31_
 go_wp2_with fail
 refine (of_can _ 1 2 (show Can 1 2 from ⟨by decide, by simp⟩) (by decide) (by decide)).mono ?_
 rintro e w36 ⟨n69, A69, c69, l69, n70, A70, c70, l70, rfl, i69, i70, hb⟩
 replace xa := xa.below hb
 replace xb := xb.below hb
 replace xc := xc.below hb
 replace xp := xp.below hb
 replace xd := xd.below hb
 replace xs := xs.below hb
 replace xt := xt.below hb
 have hw33_ := bt hw32_ hb
 have Bhw33_ := Hi hb
 clear hb hw32_
 have I69 := Hi i69
 clear i69
 have I70 := Hi i70
 clear i70
 go_wp2_with fail
 refine (of_can _ 1 3 (show Can 1 3 from ⟨by decide, by simp⟩) (by decide) (by decide)).mono ?_
 rintro e w37 ⟨n71, A71, c71, l71, n72, A72, c72, l72, rfl, i71, i72, hb⟩
 replace xa := xa.below hb
 replace xb := xb.below hb
 replace xc := xc.below hb
 replace xp := xp.below hb
 replace xd := xd.below hb
 replace xs := xs.below hb
 replace xt := xt.below hb
 have hw34_ := bt hw33_ hb
 have Bhw34_ := Hi hb
 clear hb hw33_
 have I71 := Hi i71
 clear i71
 have I72 := Hi i72
 clear i72
 go_wp2_with fail
 refine (QSub_iv I69.out.b I70.out.b I71.out.b I72.out.b (show Can 1 2 from ⟨by decide, by simp⟩) (show Can 1 3 from ⟨by decide, by simp⟩) (lt120 (by decide)) (lt120 (by decide)) (lt120 (by decide)) (lt120 (by decide))).mono ?_
 rintro e w38 ⟨n73, A73, c73, l73, n74, A74, c74, l74, rfl, i73, i74, hb⟩
 replace xa := xa.below hb
 replace xb := xb.below hb
 replace xc := xc.below hb
 replace xp := xp.below hb
 replace xd := xd.below hb
 replace xs := xs.below hb
 replace xt := xt.below hb
 have hw35_ := bt hw34_ hb
 have Bhw35_ := Hi hb
 clear hb hw34_
 rw [show fN (1 * 3 - 1 * 2) (2 * 3) = 1 by unfold fN; simp] at i73
 have I73 := Hi i73
 clear i73
 rw [show fD (1 * 3 - 1 * 2) (2 * 3) = 6 by unfold fD; simp] at i74
 have I74 := Hi i74
 clear i74
 go_wp2_with fail
 refine (of_can _ 1 6 (show Can 1 6 from ⟨by decide, by simp⟩) (by decide) (by decide)).mono ?_
 rintro e w39 ⟨n75, A75, c75, l75, n76, A76, c76, l76, rfl, i75, i76, hb⟩
 replace xa := xa.below hb
 replace xb := xb.below hb
 replace xc := xc.below hb
 replace xp := xp.below hb
 replace xd := xd.below hb
 replace xs := xs.below hb
 replace xt := xt.below hb
 have hw36_ := bt hw35_ hb
 have Bhw36_ := Hi hb
 clear hb hw35_
 have I75 := Hi i75
 clear i75
 have I76 := Hi i76
 clear i76
 go_wp2_with fail
 refine (RQSame_iv I73.out.b I74.out.b I75.out.b I76.out.b).mono ?_
 rintro e w40 ⟨rfl, hb⟩
 replace xa := xa.below hb
 replace xb := xb.below hb
 replace xc := xc.below hb
 replace xp := xp.below hb
 replace xd := xd.below hb
 replace xs := xs.below hb
 replace xt := xt.below hb
 have hw37_ := bt hw36_ hb
 have Bhw37_ := Hi hb
 clear hb hw36_
 go_wp2_with fail
 refine (of_can _ (-2) 3 (show Can (-2) 3 from ⟨by decide, by simp⟩) (by decide) (by decide)).mono ?_
 rintro e w41 ⟨n77, A77, c77, l77, n78, A78, c78, l78, rfl, i77, i78, hb⟩
 replace xa := xa.below hb
 replace xb := xb.below hb
 replace xc := xc.below hb
 replace xp := xp.below hb
 replace xd := xd.below hb
 replace xs := xs.below hb
 replace xt := xt.below hb
 have hw38_ := bt hw37_ hb
 have Bhw38_ := Hi hb
 clear hb hw37_
 have I77 := Hi i77
 clear i77
 have I78 := Hi i78
 clear i78
 go_wp2_with fail
 refine (of_can _ 9 4 (show Can 9 4 from ⟨by decide, by simp⟩) (by decide) (by decide)).mono ?_
 rintro e w42 ⟨n79, A79, c79, l79, n80, A80, c80, l80, rfl, i79, i80, hb⟩
 replace xa := xa.below hb
 replace xb := xb.below hb
 replace xc := xc.below hb
 replace xp := xp.below hb
 replace xd := xd.below hb
 replace xs := xs.below hb
 replace xt := xt.below hb
 have hw39_ := bt hw38_ hb
 have Bhw39_ := Hi hb
 clear hb hw38_
 have I79 := Hi i79
 clear i79
 have I80 := Hi i80
 clear i80
 go_wp2_with fail
 refine (QMul_iv I77.out.b I78.out.b I79.out.b I80.out.b (show Can (-2) 3 from ⟨by decide, by simp⟩) (show Can 9 4 from ⟨by decide, by simp⟩) (lt120 (by decide)) (lt120 (by decide)) (lt120 (by decide)) (lt120 (by decide))).mono ?_
 rintro e w43 ⟨n81, A81, c81, l81, n82, A82, c82, l82, rfl, i81, i82, hb⟩
 replace xa := xa.below hb
 replace xb := xb.below hb
 replace xc := xc.below hb
 replace xp := xp.below hb
 replace xd := xd.below hb
 replace xs := xs.below hb
 replace xt := xt.below hb
 have hw40_ := bt hw39_ hb
 have Bhw40_ := Hi hb
 clear hb hw39_
 rw [show fN (-2 * 9) (3 * 4) = -3 by unfold fN; simp] at i81
 have I81 := Hi i81
 clear i81
 rw [show fD (-2 * 9) (3 * 4) = 2 by unfold fD; simp] at i82
 have I82 := Hi i82
 clear i82
 go_wp2_with fail
 refine (of_can _ (-3) 2 (show Can (-3) 2 from ⟨by decide, by simp⟩) (by decide) (by decide)).mono ?_
 rintro e w44 ⟨n83, A83, c83, l83, n84, A84, c84, l84, rfl, i83, i84, hb⟩
 replace xa := xa.below hb
 replace xb := xb.below hb
 replace xc := xc.below hb
 replace xp := xp.below hb
 replace xd := xd.below hb
 replace xs := xs.below hb
 replace xt := xt.below hb
 have hw41_ := bt hw40_ hb
 have Bhw41_ := Hi hb
 clear hb hw40_
 have I83 := Hi i83
 clear i83
 have I84 := Hi i84
 clear i84
 go_wp2_with fail
 refine (RQSame_iv I81.out.b I82.out.b I83.out.b I84.out.b).mono ?_
 rintro e w45 ⟨rfl, hb⟩
 replace xa := xa.below hb
 replace xb := xb.below hb
 replace xc := xc.below hb
 replace xp := xp.below hb
 replace xd := xd.below hb
 replace xs := xs.below hb
 replace xt := xt.below hb
 have hw42_ := bt hw41_ hb
 have Bhw42_ := Hi hb
 clear hb hw41_
 go_wp2_with fail
 refine (of_can _ 1 2 (show Can 1 2 from ⟨by decide, by simp⟩) (by decide) (by decide)).mono ?_
 rintro e w46 ⟨n85, A85, c85, l85, n86, A86, c86, l86, rfl, i85, i86, hb⟩
 replace xa := xa.below hb
 replace xb := xb.below hb
 replace xc := xc.below hb
 replace xp := xp.below hb
 replace xd := xd.below hb
 replace xs := xs.below hb
 replace xt := xt.below hb
 have hw43_ := bt hw42_ hb
 have Bhw43_ := Hi hb
 clear hb hw42_
 have I85 := Hi i85
 clear i85
 have I86 := Hi i86
 clear i86
 go_wp2_with fail
 refine (QNeg_iv I85.out.b I86.out.b).mono ?_
 rintro e w47 ⟨n87, A87, c87, l87, n88, A88, c88, l88, rfl, i87, i88, hb⟩
 replace xa := xa.below hb
 replace xb := xb.below hb
 replace xc := xc.below hb
 replace xp := xp.below hb
 replace xd := xd.below hb
 replace xs := xs.below hb
 replace xt := xt.below hb
 have hw44_ := bt hw43_ hb
 have Bhw44_ := Hi hb
 clear hb hw43_
 have I87 := Hi i87
 clear i87
 have I88 := Hi i88
 clear i88
 go_wp2_with fail
 refine (of_can _ (-1) 2 (show Can (-1) 2 from ⟨by decide, by simp⟩) (by decide) (by decide)).mono ?_
 rintro e w48 ⟨n89, A89, c89, l89, n90, A90, c90, l90, rfl, i89, i90, hb⟩
 replace xa := xa.below hb
 replace xb := xb.below hb
 replace xc := xc.below hb
 replace xp := xp.below hb
 replace xd := xd.below hb
 replace xs := xs.below hb
 replace xt := xt.below hb
 have hw45_ := bt hw44_ hb
 have Bhw45_ := Hi hb
 clear hb hw44_
 have I89 := Hi i89
 clear i89
 have I90 := Hi i90
 clear i90
 go_wp2_with fail
 refine (RQSame_iv I87.out.b I88.out.b I89.out.b I90.out.b).mono ?_
 rintro e w49 ⟨rfl, hb⟩
 replace xa := xa.below hb
 replace xb := xb.below hb
 replace xc := xc.below hb
 replace xp := xp.below hb
 replace xd := xd.below hb
 replace xs := xs.below hb
 replace xt := xt.below hb
 have hw46_ := bt hw45_ hb
 have Bhw46_ := Hi hb
 clear hb hw45_
 go_wp2_with fail
 refine (of_can _ 1 2 (show Can 1 2 from ⟨by decide, by simp⟩) (by decide) (by decide)).mono ?_
 rintro e w50 ⟨n91, A91, c91, l91, n92, A92, c92, l92, rfl, i91, i92, hb⟩
 replace xa := xa.below hb
 replace xb := xb.below hb
 replace xc := xc.below hb
 replace xp := xp.below hb
 replace xd := xd.below hb
 replace xs := xs.below hb
 replace xt := xt.below hb
 have hw47_ := bt hw46_ hb
 have Bhw47_ := Hi hb
 clear hb hw46_
 have I91 := Hi i91
 clear i91
 have I92 := Hi i92
 clear i92
 go_wp2_with fail
 refine (QIs_iv I91.out.b I92.out.b (show Can 1 2 from ⟨by decide, by simp⟩)).mono ?_
 rintro e w51 ⟨rfl, hb⟩
 replace xa := xa.below hb
 replace xb := xb.below hb
 replace xc := xc.below hb
 replace xp := xp.below hb
 replace xd := xd.below hb
 replace xs := xs.below hb
 replace xt := xt.below hb
 have hw48_ := bt hw47_ hb
 have Bhw48_ := Hi hb
 clear hb hw47_
 go_wp2_with fail
 refine (of_can _ (-1) 2 (show Can (-1) 2 from ⟨by decide, by simp⟩) (by decide) (by decide)).mono ?_
 rintro e w52 ⟨n93, A93, c93, l93, n94, A94, c94, l94, rfl, i93, i94, hb⟩
 replace xa := xa.below hb
 replace xb := xb.below hb
 replace xc := xc.below hb
 replace xp := xp.below hb
 replace xd := xd.below hb
 replace xs := xs.below hb
 replace xt := xt.below hb
 have hw49_ := bt hw48_ hb
 have Bhw49_ := Hi hb
 clear hb hw48_
 have I93 := Hi i93
 clear i93
 have I94 := Hi i94
 clear i94
 go_wp2_with fail
 refine (QSign_iv I93.out.b I94.out.b).mono ?_
 rintro e w53 ⟨rfl, hb⟩
 replace xa := xa.below hb
 replace xb := xb.below hb
 replace xc := xc.below hb
 replace xp := xp.below hb
 replace xd := xd.below hb
 replace xs := xs.below hb
 replace xt := xt.below hb
 have hw50_ := bt hw49_ hb
 have Bhw50_ := Hi hb
 clear hb hw49_
 rw [show cmpI (-1) 0 = -1 by decide]
 go_wp2_with fail
 refine (of_can _ 1 3 (show Can 1 3 from ⟨by decide, by simp⟩) (by decide) (by decide)).mono ?_
 rintro e w54 ⟨n95, A95, c95, l95, n96, A96, c96, l96, rfl, i95, i96, hb⟩
 replace xa := xa.below hb
 replace xb := xb.below hb
 replace xc := xc.below hb
 replace xp := xp.below hb
 replace xd := xd.below hb
 replace xs := xs.below hb
 replace xt := xt.below hb
 have hw51_ := bt hw50_ hb
 have Bhw51_ := Hi hb
 clear hb hw50_
 have I95 := Hi i95
 clear i95
 have I96 := Hi i96
 clear i96
 go_wp2_with fail
 refine (of_can _ 33 100 (show Can 33 100 from ⟨by decide, by simp⟩) (by decide) (by decide)).mono ?_
 rintro e w55 ⟨n97, A97, c97, l97, n98, A98, c98, l98, rfl, i97, i98, hb⟩
 replace xa := xa.below hb
 replace xb := xb.below hb
 replace xc := xc.below hb
 replace xp := xp.below hb
 replace xd := xd.below hb
 replace xs := xs.below hb
 replace xt := xt.below hb
 have hw52_ := bt hw51_ hb
 have Bhw52_ := Hi hb
 clear hb hw51_
 have I97 := Hi i97
 clear i97
 have I98 := Hi i98
 clear i98
 go_wp2_with fail
 refine (QCmp_iv I95.out.b I96.out.b I97.out.b I98.out.b (lt120 (by decide)) (lt120 (by decide)) (lt120 (by decide)) (lt120 (by decide))).mono ?_
 rintro e w56 ⟨rfl, hb⟩
 replace xa := xa.below hb
 replace xb := xb.below hb
 replace xc := xc.below hb
 replace xp := xp.below hb
 replace xd := xd.below hb
 replace xs := xs.below hb
 replace xt := xt.below hb
 have hw53_ := bt hw52_ hb
 have Bhw53_ := Hi hb
 clear hb hw52_
 rw [show cmpI (1 * 100) (33 * 3) = 1 by decide]
 go_wp2_with fail
 refine (of_can _ (-7) 2 (show Can (-7) 2 from ⟨by decide, by simp⟩) (by decide) (by decide)).mono ?_
 rintro e w57 ⟨n99, A99, c99, l99, n100, A100, c100, l100, rfl, i99, i100, hb⟩
 replace xa := xa.below hb
 replace xb := xb.below hb
 replace xc := xc.below hb
 replace xp := xp.below hb
 replace xd := xd.below hb
 replace xs := xs.below hb
 replace xt := xt.below hb
 have hw54_ := bt hw53_ hb
 have Bhw54_ := Hi hb
 clear hb hw53_
 have I99 := Hi i99
 clear i99
 have I100 := Hi i100
 clear i100
 go_wp2_with fail
 refine (QFloor_iv I99.out.b I100.out.b (by decide)).mono ?_
 rintro e w58 ⟨n101, A101, c101, l101, rfl, i101, hb⟩
 replace xa := xa.below hb
 replace xb := xb.below hb
 replace xc := xc.below hb
 replace xp := xp.below hb
 replace xd := xd.below hb
 replace xs := xs.below hb
 replace xt := xt.below hb
 have hw55_ := bt hw54_ hb
 have Bhw55_ := Hi hb
 clear hb hw54_
 rw [show (-7 : Int) / 2 = -4 by decide] at i101
 have I101 := Hi i101
 clear i101
 go_wp2_with fail
 refine (ROf_iv _ (-4) (by decide) (by decide)).mono ?_
 rintro e w59 ⟨n102, A102, c102, l102, rfl, i102, hb⟩
 replace xa := xa.below hb
 replace xb := xb.below hb
 replace xc := xc.below hb
 replace xp := xp.below hb
 replace xd := xd.below hb
 replace xs := xs.below hb
 replace xt := xt.below hb
 have hw56_ := bt hw55_ hb
 have Bhw56_ := Hi hb
 clear hb hw55_
 have I102 := Hi i102
 clear i102
 go_wp2_with fail
 refine (Same_iv I101.out.b I102.out.b).mono ?_
 rintro e w60 ⟨rfl, hb⟩
 replace xa := xa.below hb
 replace xb := xb.below hb
 replace xc := xc.below hb
 replace xp := xp.below hb
 replace xd := xd.below hb
 replace xs := xs.below hb
 replace xt := xt.below hb
 have hw57_ := bt hw56_ hb
 have Bhw57_ := Hi hb
 clear hb hw56_
 go_wp2_with fail
 refine (ROf_iv _ 5 (by decide) (by decide)).mono ?_
 rintro e w61 ⟨n103, A103, c103, l103, rfl, i103, hb⟩
 replace xa := xa.below hb
 replace xb := xb.below hb
 replace xc := xc.below hb
 replace xp := xp.below hb
 replace xd := xd.below hb
 replace xs := xs.below hb
 replace xt := xt.below hb
 have hw58_ := bt hw57_ hb
 have Bhw58_ := Hi hb
 clear hb hw57_
 have I103 := Hi i103
 clear i103
 go_wp2_with fail
 refine (QWhole_iv I103.out.b).mono ?_
 rintro e w62 ⟨n104, A104, c104, l104, n105, A105, c105, l105, rfl, i104, i105, hb⟩
 replace xa := xa.below hb
 replace xb := xb.below hb
 replace xc := xc.below hb
 replace xp := xp.below hb
 replace xd := xd.below hb
 replace xs := xs.below hb
 replace xt := xt.below hb
 have hw59_ := bt hw58_ hb
 have Bhw59_ := Hi hb
 clear hb hw58_
 have I104 := Hi i104
 clear i104
 have I105 := Hi i105
 clear i105
 go_wp2_with fail
 refine (of_can _ 5 1 (show Can 5 1 from ⟨by decide, by simp⟩) (by decide) (by decide)).mono ?_
 rintro e w63 ⟨n106, A106, c106, l106, n107, A107, c107, l107, rfl, i106, i107, hb⟩
 replace xa := xa.below hb
 replace xb := xb.below hb
 replace xc := xc.below hb
 replace xp := xp.below hb
 replace xd := xd.below hb
 replace xs := xs.below hb
 replace xt := xt.below hb
 have hw60_ := bt hw59_ hb
 have Bhw60_ := Hi hb
 clear hb hw59_
 have I106 := Hi i106
 clear i106
 have I107 := Hi i107
 clear i107
 go_wp2_with fail
 refine (RQSame_iv I104.out.b I105.out.b I106.out.b I107.out.b).mono ?_
 rintro e w64 ⟨rfl, hb⟩
 replace xa := xa.below hb
 replace xb := xb.below hb
 replace xc := xc.below hb
 replace xp := xp.below hb
 replace xd := xd.below hb
 replace xs := xs.below hb
 replace xt := xt.below hb
 have hw61_ := bt hw60_ hb
 have Bhw61_ := Hi hb
 clear hb hw60_
 go_wp2_with fail
 refine (of_can _ (-3) 4 (show Can (-3) 4 from ⟨by decide, by simp⟩) (by decide) (by decide)).mono ?_
 rintro e w65 ⟨n108, A108, c108, l108, n109, A109, c109, l109, rfl, i108, i109, hb⟩
 replace xa := xa.below hb
 replace xb := xb.below hb
 replace xc := xc.below hb
 replace xp := xp.below hb
 replace xd := xd.below hb
 replace xs := xs.below hb
 replace xt := xt.below hb
 have hw62_ := bt hw61_ hb
 have Bhw62_ := Hi hb
 clear hb hw61_
 have I108 := Hi i108
 clear i108
 have I109 := Hi i109
 clear i109
 go_wp2_with fail
 refine (QPrint_frac I108.out.b I109.out.b (HTn.out.below hw62_) (by decide)).mono ?_
 rintro e w66 ⟨s, rfl, hs, hb⟩
 obtain rfl : s = ⟨#[45, 51, 47, 52]⟩ := by
  rcases hs with ⟨h1, _⟩ | ⟨_, s1, s2, h1, h2, rfl⟩
  ·exact absurd h1 (by decide)
  ·rw [h1.uniq (t := ⟨#[45, 51]⟩) (.inr ⟨by decide, [51], by rfl, by decide, ⟨by unfold isDg; decide, by decide⟩, by decide⟩), h2.uniq (t := ⟨#[52]⟩) (.inr ⟨by decide, [52], by rfl, by decide, ⟨by unfold isDg; decide, by decide⟩, by decide⟩)]
   rfl
 clear hs
 replace xa := xa.below hb
 replace xb := xb.below hb
 replace xc := xc.below hb
 replace xp := xp.below hb
 replace xd := xd.below hb
 replace xs := xs.below hb
 replace xt := xt.below hb
 have hw63_ := bt hw62_ hb
 have Bhw63_ := Hi hb
 clear hb hw62_
 go_wp2_with fail
 go_ret
 exact ⟨rfl, hw63_⟩
end Go.Proofs.YtgljdfblgpdaaaaGreatDoor
