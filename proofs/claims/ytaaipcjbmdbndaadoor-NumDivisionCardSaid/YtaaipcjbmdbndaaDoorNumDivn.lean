/- NumDivision: the walk. -/
import Derived.Test.YtaaipcjbmdbndaaDoorNumIv
import Derived.Test.YtaaipcjbmdbndaaDoorNumDivA
import Derived.Deep.RegionHeld3
import Derived.Deep.RegionLaw
import Derived.Deep.DeepCutAuto
import Derived.Outline
namespace Go.Proofs.YtaaipcjbmdbndaaDoor
open Go.RowKit

theorem zI_zero {n : Bool} {l : List Nat} (hB : isB n l = true) : zI n l = 0 ↔ l.length = 0 := by
  have h := val_eq_zero (isB_top hB)
  rw [← h]
  unfold zI
  cases n <;> simp
theorem lt_ediv {i : Nat} {x y : Int} (h : Lt i x) : Lt i (x / y) := Nat.lt_of_le_of_lt (Int.natAbs_ediv_le_natAbs x y) h
theorem lt_emod {i : Nat} {x y : Int} (hy : y ≠ 0) (h : Lt i y) : Lt i (x % y) := by
  have h1 := Int.emod_nonneg x hy
  have h2 := Int.emod_lt x hy
  unfold Lt at *
  omega
theorem div_small {c b : Int} (h0 : 0 ≤ c) (h1 : c < (b.natAbs : Int)) : c / b = 0 ∧ c % b = c := by
  by_cases hb : 0 < b
  · exact ⟨Int.ediv_eq_zero_of_lt h0 (by omega), Int.emod_eq_of_lt h0 (by omega)⟩
  · obtain ⟨d, rfl⟩ : ∃ d, b = -d := ⟨-b, by omega⟩
    rw [Int.ediv_neg, Int.emod_neg, Int.ediv_eq_zero_of_lt h0 (by omega), Int.emod_eq_of_lt h0 (by omega)]
    exact ⟨rfl, rfl⟩
/-- Where Div's results lie. -/
def DivAt (w : World) (q r er : Int) (s t e : Value) (W : World) : Prop :=
  ∃ p1 p2 n A c l n' A' c' l', s = .pointer (some ⟨p1, 0, none⟩) ∧ t = .pointer (some ⟨p2, 0, none⟩) ∧ e = .int .i64 er ∧ IntAt W p1 n A c l q ∧ IntAt W p2 n' A' c' l' r ∧ Below w.heap.size w W
/-- A call of Div returned q, r and no error. -/
def RDIV (w : World) (q r : Int) (e : Ending) (w' : World) : Prop :=
  ∃ n1 A1 c1 l1 n2 A2 c2 l2, e = .returned (.tuple #[.agg #[.bool n1, .slice A1 l1.length c1], .agg #[.bool n2, .slice A2 l2.length c2], .int .i64 0]) ∧ IV w' n1 A1 c1 l1 q ∧ IV w' n2 A2 c2 l2 r ∧ Below w.heap.size w w'
theorem IP.iv {a w' : World} {n : Bool} {A : Option Addr} {c : Nat} {l : List Nat} {z : Int} (h : IP a w' n A c l z) (hlt : Lt 300 z) : IV w' n A c l z := .of h.1 h.2.1.ws h.2.2.1 h.2.2.2 hlt
theorem Div_ow {w : World} {n m : Bool} {A B : Option Addr} {c d : Nat} {l k : List Nat} {x y q r : Int} (h : IV w n A c l x) (h2 : IV w m B d k y) (hy : y ≠ 0) (hq : x / y = q) (hr : x % y = r) :
    Calls Tryd.prog 24 #[.agg #[.bool n, .slice A l.length c], .agg #[.bool m, .slice B k.length d]] w (QRes w q r 0) := by
  have e1 := h.len
  have e2 := h2.len
  have hk0 : 0 < k.length := Nat.pos_of_ne_zero (fun e => hy (by rw [← h2.val]; exact (zI_zero h2.can).2 e))
  have hd := Div_any w w n m A B c d l k (by omega) (by omega) h.ws h2.ws h.can h2.can hk0 (b0 _)
  rwa [h.val, h2.val, hq, hr] at hd
theorem Div_iv {w : World} {n m : Bool} {A B : Option Addr} {c d : Nat} {l k : List Nat} {x y q r : Int} (h : IV w n A c l x) (h2 : IV w m B d k y) (hy : y ≠ 0) (hq : x / y = q) (hr : x % y = r) (h1 : Lt 300 q) (h3 : Lt 300 r) :
    Calls Tryd.prog 24 #[.agg #[.bool n, .slice A l.length c], .agg #[.bool m, .slice B k.length d]] w (RDIV w q r) := by
  have e1 := h.len
  have e2 := h2.len
  have hk0 : 0 < k.length := Nat.pos_of_ne_zero (fun e => hy (by rw [← h2.val]; exact (zI_zero h2.can).2 e))
  refine (Div_any w w n m A B c d l k (by omega) (by omega) h.ws h2.ws h.can h2.can hk0 (b0 _)).mono ?_
  rintro e w' ⟨n1, A1, c1, l1, n2, A2, c2, l2, rfl, i1, i2, hb⟩
  rw [h.val, h2.val, hq] at i1
  rw [h.val, h2.val, hr] at i2
  exact ⟨n1, A1, c1, l1, n2, A2, c2, l2, rfl, i1.iv h1, i2.iv h3, hb⟩

set_option maxRecDepth 100000 in
set_option maxHeartbeats 40000000 in
theorem NumDivision_look (w : World) (na nb nc : Bool) (A B C : Option Addr) (ca cb cc : Nat) (l k m : List Nat) (hl : WS w A l) (hk : WS w B k) (hm : WS w C m) (hl1 : l.length ≤ 60) (hk1 : k.length ≤ 60) (hm1 : m.length ≤ 60)
    (hca : l.length ≤ ca) (hcb : k.length ≤ cb) (hcc : m.length ≤ cc) (ha : isB na l = true) (hb : isB nb k = true) (hc : isB nc m = true) (hT : Tens w) :
    Calls Tryd.prog 5 #[.agg #[.bool na, .slice A l.length ca], .agg #[.bool nb, .slice B k.length cb], .agg #[.bool nc, .slice C m.length cc]] w fun e w' => e = .returned (.bool true) ∧ Below w.heap.size w w' := by
  have HTn := Lib.hid hT
  have HA := Lib.hid ha
  have HB := Lib.hid hb
  have HC := Lib.hid hc
  have hsh := fun W => short_wide 60 na nb nc A B C l.length k.length m.length ca cb cc W (by omega) true (by simp [hl1, hk1, hm1])
  have HSH := Lib.hid hsh
  clear hT ha hb hc hsh
  go_enter Tryd.func5, Tryd.ntmps5
  go_wp2_with fail
  obtain ⟨W1, hW1⟩ : ∃ W, W = ((w.alloc (bx na A l.length ca)).alloc (bx nb B k.length cb)).alloc (bx nc C m.length cc) := ⟨_, rfl⟩
  have Y0 : Box2 W1 w.heap.size (.bool na) (.slice A l.length ca) := by rw [hW1]; exact ((Box2.new w _ _).alloc _).alloc _
  have Y1 : Box2 W1 (w.heap.size + 1) (.bool nb) (.slice B k.length cb) := by
    rw [hW1]
    have h := (Box2.new (w.alloc (bx na A l.length ca)) (.bool nb) (.slice B k.length cb)).alloc (bx nc C m.length cc)
    rwa [World.size_alloc] at h
  have Y2 : Box2 W1 (w.heap.size + 1 + 1) (.bool nc) (.slice C m.length cc) := by
    rw [hW1]
    have h := Box2.new ((w.alloc (bx na A l.length ca)).alloc (bx nb B k.length cb)) (.bool nc) (.slice C m.length cc)
    rwa [World.size_alloc, World.size_alloc] at h
  have K1 : Below w.heap.size w W1 := by rw [hW1]; exact ba (ba (ba (b0 _) _) _) _
  change Calls _ _ _ (((w.alloc (bx na A l.length ca)).alloc (bx nb B k.length cb)).alloc (bx nc C m.length cc)) _
  rw [← hW1]
  clear hW1
  refine (HSH.out W1).mono ?_
  rintro e w2 ⟨rfl, hb2⟩
  have K2 : Below w.heap.size w w2 := bt K1 hb2
  have y0 := (Y0.below hb2).cell0
  have y1 := (Y0.below hb2).cell1
  go_wp2_with fail
  refine (RIs_any na A l.length ca l w2 rfl (by omega) (hl.below K2)).mono ?_
  rintro e w3 ⟨rfl, hb3⟩
  rw [HA.out]
  have K3 := bt K2 hb3
  clear y0 y1
  have y0 := ((Y1.below hb2).below hb3).cell0
  have y1 := ((Y1.below hb2).below hb3).cell1
  go_wp2_with fail
  refine (RIs_any nb B k.length cb k w3 rfl (by omega) (hk.below K3)).mono ?_
  rintro e w4 ⟨rfl, hb4⟩
  rw [HB.out]
  have K4 := bt K3 hb4
  clear y0 y1
  have y0 := (((Y2.below hb2).below hb3).below hb4).cell0
  have y1 := (((Y2.below hb2).below hb3).below hb4).cell1
  go_wp2_with fail
  refine (RIs_any nc C m.length cc m w4 rfl (by omega) (hm.below K4)).mono ?_
  rintro e w5 ⟨rfl, hb5⟩
  rw [HC.out]
  have K5 := bt K4 hb5
  have hb15 := bt (bt (bt hb2 hb3) hb4) hb5
  have Z0 := Y0.below hb15
  have Z1 := Y1.below hb15
  have Z2 := Y2.below hb15
  clear y0 y1 Y0 Y1 Y2 K1 K2 K3 K4 hb2 hb3 hb4 hb5 hb15 HSH
  obtain ⟨za, hza⟩ : ∃ z, z = zI na l := ⟨_, rfl⟩
  obtain ⟨zb, hzb⟩ : ∃ z, z = zI nb k := ⟨_, rfl⟩
  obtain ⟨zc, hzc⟩ : ∃ z, z = zI nc m := ⟨_, rfl⟩
  have JA : IV w5 na A ca l za := ⟨hca, hl.below K5, HA.out, hza.symm, by omega⟩
  have JB : IV w5 nb B cb k zb := ⟨hcb, hk.below K5, HB.out, hzb.symm, by omega⟩
  have JC : IV w5 nc C cc m zc := ⟨hcc, hm.below K5, HC.out, hzc.symm, by omega⟩
  have TA : Lt 60 za := lt_le (lt_val hl hza.symm) hl1
  have TB : Lt 60 zb := lt_le (lt_val hk hzb.symm) hk1
  have TC : Lt 60 zc := lt_le (lt_val hm hzc.symm) hm1
  have TT := HTn.out.below K5
  clear hl1 hk1 hm1 hca hcb hcc HA HB HC hl hk hm HTn hza hzb hzc
  have IA : IntAt w5 w.heap.size na A ca l za := IntAt.box Z0 JA
  have IB : IntAt w5 (w.heap.size + 1) nb B cb k zb := IntAt.box Z1 JB
  have IC : IntAt w5 (w.heap.size + 1 + 1) nc C cc m zc := IntAt.box Z2 JC
  have sz5 := Z2.lt
  have a0 := IA.c0
  have a1 := IA.c1
  have b0' := IB.c0
  have b1' := IB.c1
  have HIA := Lib.hid IA
  have HIB := Lib.hid IB
  have HIC := Lib.hid IC
  have HJA := Lib.hid JA
  have HJB := Lib.hid JB
  have HJC := Lib.hid JC
  have HTA := Lib.hid TA
  have HTB := Lib.hid TB
  have HTC := Lib.hid TC
  have HTT := Lib.hid TT
  have HK := Lib.hid K5
  clear IA IB IC JA JB JC TA TB TC TT Z0 Z1 Z2 K5
  by_cases hz : zb = 0
  · have hk0 : k.length = 0 := (zI_zero HJB.out.can).1 (HJB.out.val.trans hz)
    have HK0 := Lib.hid hk0
    have HZ := Lib.hid hz
    clear hk0 hz
    go_upto_region 3 with fail
    go_cut [7, 8, 9] (fun s t e wx => DivAt w5 0 0 5 s t e wx)
    case first =>
      go_wp2_with fail
      refine (Div_zero w5 na nb A B ca cb l k (by have := HJA.out.len; omega) HJA.out.ws HJB.out.ws HJA.out.can HJB.out.can HK0.out).mono ?_
      rintro e w6 ⟨rfl, hb6⟩
      go_wp2_with fail
      go_meet
      exact ⟨w6.heap.size, w6.heap.size + 1, false, none, 0, [], false, none, 0, [], rfl, rfl, rfl, (IntAt.new (Nat.le_refl _) (WS.nil_ _ _) rfl rfl).alloc _, IntAt.new' (Nat.le_refl _) rfl rfl (WS.nil_ _ _) (by simp), ba (ba hb6 _) _⟩
    case rest =>
      obtain ⟨p1, p2, n1, A1, c1, l1, n2, A2, c2, l2, rfl, rfl, rfl, I1, I2, hb8⟩ := hcut
      obtain ⟨w8, hw8⟩ : ∃ v, v = wc := ⟨_, rfl⟩
      rw [← hw8] at I1 I2 hb8 ⊢
      clear hw8 wc I1 I2 a0 a1 b0' b1'
      have b0' := (HIB.out.below hb8).c0
      have b1' := (HIB.out.below hb8).c1
      have JB := Lib.hid (HJB.out.below hb8)
      have hv : cmpI zb 0 = 0 := by rw [HZ.out]; rfl
      have HV := Lib.hid hv
      clear hv
      go_wp2_with fail
      refine (Sign_iv JB.out HV.out).mono ?_
      rintro e w9 ⟨rfl, hb9⟩
      go_wp2_with fail
      refine (sane_any w9 ((HTT.out.below hb8).below hb9)).mono ?_
      rintro e w10 ⟨rfl, hb10⟩
      go_wp2_with fail
      go_ret
      exact ⟨rfl, bt (bt (bt HK.out hb8) hb9) hb10⟩
  · have HZ := Lib.hid hz
    clear hz
    go_upto_region 3 with fail
    go_cut [7, 8, 9] (fun s t e wx => DivAt w5 (za / zb) (za % zb) 0 s t e wx)
    case first =>
      as_aux_lemma =>
      go_wp2_with fail
      refine (Div_iv HJA.out HJB.out HZ.out rfl rfl (lt_le (lt_ediv HTA.out) (by decide)) (lt_le (lt_emod HZ.out HTB.out) (by decide))).mono ?_
      rintro e w6 ⟨n1, A1, c1, l1, n2, A2, c2, l2, rfl, I1, I2, hb6⟩
      have HI1 := Lib.hid I1
      have HI2 := Lib.hid I2
      clear I1 I2
      go_wp2_with fail
      go_meet
      exact ⟨w6.heap.size, w6.heap.size + 1, n1, A1, c1, l1, n2, A2, c2, l2, rfl, rfl, rfl, (IntAt.new HI1.out.cap HI1.out.ws HI1.out.can HI1.out.val).alloc _, IntAt.new' HI2.out.cap HI2.out.can HI2.out.val (HI2.out.ws.below (ba (b0 _) _)) (by simp), ba (ba hb6 _) _⟩
    case rest =>
    obtain ⟨p1, p2, n1, A1, c1, l1, n2, A2, c2, l2, rfl, rfl, rfl, I1, I2, hb8⟩ := hcut
    obtain ⟨w8, hw8⟩ : ∃ v, v = wc := ⟨_, rfl⟩
    rw [← hw8] at I1 I2 hb8 ⊢
    clear hw8 wc a0 a1 b0' b1'
    have V1 := Lib.hid (I1.iv (lt_le (lt_ediv HTA.out) (by decide)))
    have V2 := Lib.hid (I2.iv (lt_le (lt_emod HZ.out HTB.out) (by decide)))
    have HI1 := Lib.hid I1
    have HI2 := Lib.hid I2
    clear I1 I2
    have xHJA := Lib.hid (HJA.out.below hb8)
    have xHJB := Lib.hid (HJB.out.below hb8)
    have xHJC := Lib.hid (HJC.out.below hb8)
    have xHIA := Lib.hid (HIA.out.below hb8)
    have xHIB := Lib.hid (HIB.out.below hb8)
    have xHIC := Lib.hid (HIC.out.below hb8)
    have xHTT := Lib.hid (HTT.out.below hb8)
    have xHK := Lib.hid (bt HK.out hb8)
    clear HK HJA HJB HJC HIA HIB HIC HTT
    have HJA := xHJA
    clear xHJA
    have HJB := xHJB
    clear xHJB
    have HJC := xHJC
    clear xHJC
    have HIA := xHIA
    clear xHIA
    have HIB := xHIB
    clear xHIB
    have HIC := xHIC
    clear xHIC
    have HTT := xHTT
    clear xHTT
    have HK := xHK
    clear xHK
    have b0' := HIB.out.c0
    have b1' := HIB.out.c1
    obtain ⟨v, hv⟩ : ∃ v, v = cmpI zb 0 := ⟨_, rfl⟩
    have hv0 : ((v : Int) == 0) = false := by
      refine beq_eq_false_iff_ne.2 (fun h => HZ.out ?_)
      rw [hv] at h
      unfold cmpI at h
      split at h
      · omega
      · split at h
        · assumption
        · omega
    have HV := Lib.hid hv
    clear hv
    go_wp2_with fail
    refine (Sign_iv HJB.out HV.out.symm).mono ?_
    rintro e w9 ⟨rfl, hb9⟩
    have xHJA := Lib.hid (HJA.out.below hb9)
    have xHJB := Lib.hid (HJB.out.below hb9)
    have xHJC := Lib.hid (HJC.out.below hb9)
    have xHIA := Lib.hid (HIA.out.below hb9)
    have xHIB := Lib.hid (HIB.out.below hb9)
    have xHIC := Lib.hid (HIC.out.below hb9)
    have xHTT := Lib.hid (HTT.out.below hb9)
    have xV1 := Lib.hid (V1.out.below hb9)
    have xV2 := Lib.hid (V2.out.below hb9)
    have xHI1 := Lib.hid (HI1.out.below hb9)
    have xHI2 := Lib.hid (HI2.out.below hb9)
    have xHK := Lib.hid (bt HK.out hb9)
    clear HK HJA HJB HJC HIA HIB HIC HTT V1 V2 HI1 HI2
    have HJA := xHJA
    clear xHJA
    have HJB := xHJB
    clear xHJB
    have HJC := xHJC
    clear xHJC
    have HIA := xHIA
    clear xHIA
    have HIB := xHIB
    clear xHIB
    have HIC := xHIC
    clear xHIC
    have HTT := xHTT
    clear xHTT
    have V1 := xV1
    clear xV1
    have V2 := xV2
    clear xV2
    have HI1 := xHI1
    clear xHI1
    have HI2 := xHI2
    clear xHI2
    have HK := xHK
    clear xHK
    clear b0' b1' hb8 hb9
    go_upto_region 6 with fail
    go_cut [72] (fun s wx => s = .bool false ∧ Below w9.heap.size w9 wx)
    case first =>
      as_aux_lemma =>
      have S5 : ∀ W, Below w9.heap.size w9 W → W.cell? ⟨w.heap.size, 0, none⟩ = some (.bool na) ∧ W.cell? ⟨w.heap.size, 1, none⟩ = some (.slice A l.length ca) ∧ W.cell? ⟨w.heap.size + 1, 0, none⟩ = some (.bool nb) ∧ W.cell? ⟨w.heap.size + 1, 1, none⟩ = some (.slice B k.length cb) ∧ W.cell? ⟨p1, 0, none⟩ = some (.bool n1) ∧ W.cell? ⟨p1, 1, none⟩ = some (.slice A1 l1.length c1) ∧ W.cell? ⟨p2, 0, none⟩ = some (.bool n2) ∧ W.cell? ⟨p2, 1, none⟩ = some (.slice A2 l2.length c2) := fun W hb =>
        ⟨cell_below HIA.out.c0 hb, cell_below HIA.out.c1 hb, cell_below HIB.out.c0 hb, cell_below HIB.out.c1 hb, cell_below HI1.out.c0 hb, cell_below HI1.out.c1 hb, cell_below HI2.out.c0 hb, cell_below HI2.out.c1 hb⟩
      have HS5 := Lib.hid S5
      clear S5
      have hr0 := Int.emod_nonneg za HZ.out
      have hr1 := Int.emod_lt za HZ.out
      have hqr : za / zb * zb + za % zb = za := by rw [Int.mul_comm]; exact Int.mul_ediv_add_emod za zb
      obtain ⟨s, hs⟩ : ∃ s, s = cmpI (za % zb) 0 := ⟨_, rfl⟩
      have hs0 : decide (s < 0) = false := by
        rw [hs]; refine decide_eq_false (fun h => ?_)
        unfold cmpI at h; split at h
        · omega
        · split at h <;> omega
      have hs0' : ¬ (s < 0) := of_decide_eq_false hs0
      obtain ⟨u, hu⟩ : ∃ u, u = cmpI (za % zb) (zb.natAbs : Int) := ⟨_, rfl⟩
      have hu0 : decide (0 ≤ u) = false := by
        rw [hu]; refine decide_eq_false (fun h => ?_)
        unfold cmpI at h; split at h
        · omega
        · omega
      have hu0' : ¬ (0 ≤ u) := of_decide_eq_false hu0
      have HSV := Lib.hid hs
      have HUV := Lib.hid hu
      have HQR := Lib.hid hqr
      clear hs hu hr0 hr1 hqr
      go_region_held3 (fun W => W.cell? ⟨w.heap.size, 0, none⟩ = some (.bool na) ∧ W.cell? ⟨w.heap.size, 1, none⟩ = some (.slice A l.length ca) ∧ W.cell? ⟨w.heap.size + 1, 0, none⟩ = some (.bool nb) ∧ W.cell? ⟨w.heap.size + 1, 1, none⟩ = some (.slice B k.length cb) ∧ W.cell? ⟨p1, 0, none⟩ = some (.bool n1) ∧ W.cell? ⟨p1, 1, none⟩ = some (.slice A1 l1.length c1) ∧ W.cell? ⟨p2, 0, none⟩ = some (.bool n2) ∧ W.cell? ⟨p2, 1, none⟩ = some (.slice A2 l2.length c2))
        (first | (refine HS5.out _ ?_; (first | assumption | exact bd (b0 _) _ | exact b0 _)))
        (first
        | (go_at_call 18; refine (Mul_iv (V1.out.below (bd (b0 _) _)) (HJB.out.below (bd (b0 _) _)) (z := za / zb * zb) rfl (lt_le (lt_mul (lt_ediv HTA.out) HTB.out) (by decide))).mono ?_; rintro e w20 ⟨n20, A20, c20, l20, rfl, hv20, hb20⟩; have R20 := Lib.hid hv20; clear hv20; have hK20 := bdn hb20)
        | (go_at_call 17; refine (Add_iv R20.out (V2.out.below hK20) (z := za) HQR.out (lt_le HTA.out (by decide))).mono ?_; rintro e w21 ⟨n21, A21, c21, l21, rfl, hv21, hb21⟩; have R21 := Lib.hid hv21; clear hv21; have hK21 := bt hK20 hb21)
        | (go_at_call 13; refine (Same_iv (HJA.out.below hK21) R21.out).mono ?_; rintro e w22 ⟨rfl, hb22⟩; have hK22 := bt hK21 hb22)
        | (go_at_call 23; refine (Sign_iv (V2.out.below hK22) HSV.out.symm).mono ?_; rintro e w23 ⟨rfl, hb23⟩; have hK23 := bt hK22 hb23)
        | (go_at_call 25; refine (Abs_iv (HJB.out.below hK23) rfl (lt_le (show Lt 60 (zb.natAbs : Int) from HTB.out) (by decide))).mono ?_; rintro e w24 ⟨n24, A24, c24, l24, rfl, hv24, hb24⟩; have R24 := Lib.hid hv24; clear hv24; have hK24 := bt hK23 hb24)
        | (go_at_call 22; refine (Cmp_iv (V2.out.below hK24) R24.out HUV.out.symm).mono ?_; rintro e w25 ⟨rfl, hb25⟩; have hK25 := bt hK24 hb25))
      go_wp2_with fail
      go_meet
      exact ⟨rfl, hK25⟩
    case rest =>
    obtain ⟨rfl, hb10⟩ := hcut
    obtain ⟨w10, hw10⟩ : ∃ v, v = wc := ⟨_, rfl⟩
    rw [← hw10] at hb10 ⊢
    clear hw10 wc
    have xHJA := Lib.hid (HJA.out.below hb10)
    have xHJB := Lib.hid (HJB.out.below hb10)
    have xHJC := Lib.hid (HJC.out.below hb10)
    have xHIA := Lib.hid (HIA.out.below hb10)
    have xHIB := Lib.hid (HIB.out.below hb10)
    have xHIC := Lib.hid (HIC.out.below hb10)
    have xHTT := Lib.hid (HTT.out.below hb10)
    have xHK := Lib.hid (bt HK.out hb10)
    clear HK HJA HJB HJC HIA HIB HIC HTT
    have HJA := xHJA
    clear xHJA
    have HJB := xHJB
    clear xHJB
    have HJC := xHJC
    clear xHJC
    have HIA := xHIA
    clear xHIA
    have HIB := xHIB
    clear xHIB
    have HIC := xHIC
    clear xHIC
    have HTT := xHTT
    clear xHTT
    have HK := xHK
    clear xHK
    clear V1 V2 HI1 HI2 hb10
    by_cases hc0 : zc < 0
    · go_upto_region 8 with fail
      go_cut [82] (fun s wx => s = .bool true ∧ Below w10.heap.size w10 wx)
      case first =>
        as_aux_lemma =>
        have hs : cmpI zc 0 = -1 := by unfold cmpI; rw [if_pos hc0]
        have HS := Lib.hid hs
        have c0 := HIC.out.c0
        have c1 := HIC.out.c1
        clear hs
        go_region_law (first
          | (go_simp; go_at_call 23; refine (Sign_iv (HJC.out.below (by repeat (first | exact b0 _ | apply bw | apply bd))) HS.out).mono ?_; rintro e w11 ⟨rfl, hb11⟩))
        all_goals
          go_wp2_with fail
          go_meet
          exact ⟨rfl, bdn (n := 1) hb11⟩
      case rest =>
      obtain ⟨rfl, hb11⟩ := hcut
      obtain ⟨w11, hw11⟩ : ∃ v, v = wc := ⟨_, rfl⟩
      rw [← hw11] at hb11 ⊢
      clear hw11 wc
      go_wp2_with fail
      refine (sane_any w11 (HTT.out.below hb11)).mono ?_
      rintro e w12 ⟨rfl, hb12⟩
      go_wp2_with fail
      go_ret
      exact ⟨rfl, bt (bt HK.out hb11) hb12⟩
    · by_cases hcb : zc < (zb.natAbs : Int)
      · go_upto_region 8 with fail
        go_cut [82] (fun s wx => s = .bool false ∧ Below w10.heap.size w10 wx)
        case first =>
          as_aux_lemma =>
          have S5 : ∀ W, Below w10.heap.size w10 W → W.cell? ⟨w.heap.size + 1, 0, none⟩ = some (.bool nb) ∧ W.cell? ⟨w.heap.size + 1, 1, none⟩ = some (.slice B k.length cb) ∧ W.cell? ⟨w.heap.size + 1 + 1, 0, none⟩ = some (.bool nc) ∧ W.cell? ⟨w.heap.size + 1 + 1, 1, none⟩ = some (.slice C m.length cc) := fun W hb =>
            ⟨cell_below HIB.out.c0 hb, cell_below HIB.out.c1 hb, cell_below HIC.out.c0 hb, cell_below HIC.out.c1 hb⟩
          have HS5 := Lib.hid S5
          clear S5
          obtain ⟨s, hs⟩ : ∃ s, s = cmpI zc 0 := ⟨_, rfl⟩
          have hs0 : decide (s < 0) = false := by
            rw [hs]; refine decide_eq_false (fun h => ?_)
            unfold cmpI at h; split at h
            · omega
            · split at h <;> omega
          have hs0' : ¬ (s < 0) := of_decide_eq_false hs0
          obtain ⟨u, hu⟩ : ∃ u, u = cmpI zc (zb.natAbs : Int) := ⟨_, rfl⟩
          have hu0 : decide (0 ≤ u) = false := by
            rw [hu]; refine decide_eq_false (fun h => ?_)
            unfold cmpI at h; rw [if_pos hcb] at h; omega
          have hu0' : ¬ (0 ≤ u) := of_decide_eq_false hu0
          have HSV := Lib.hid hs
          have HUV := Lib.hid hu
          clear hs hu
          go_region_held3 (fun W => W.cell? ⟨w.heap.size + 1, 0, none⟩ = some (.bool nb) ∧ W.cell? ⟨w.heap.size + 1, 1, none⟩ = some (.slice B k.length cb) ∧ W.cell? ⟨w.heap.size + 1 + 1, 0, none⟩ = some (.bool nc) ∧ W.cell? ⟨w.heap.size + 1 + 1, 1, none⟩ = some (.slice C m.length cc))
            (first | (refine HS5.out _ ?_; (first | assumption | exact bd (b0 _) _ | exact b0 _)))
            (first
            | (go_at_call 23; refine (Sign_iv (HJC.out.below (bd (b0 _) _)) HSV.out.symm).mono ?_; rintro e w23 ⟨rfl, hb23⟩; have hK23 := bdn hb23)
            | (go_at_call 25; refine (Abs_iv (HJB.out.below hK23) rfl (lt_le (show Lt 60 (zb.natAbs : Int) from HTB.out) (by decide))).mono ?_; rintro e w24 ⟨n24, A24, c24, l24, rfl, hv24, hb24⟩; have R24 := Lib.hid hv24; clear hv24; have hK24 := bt hK23 hb24)
            | (go_at_call 22; refine (Cmp_iv (HJC.out.below hK24) R24.out HUV.out.symm).mono ?_; rintro e w25 ⟨rfl, hb25⟩; have hK25 := bt hK24 hb25))
          go_wp2_with fail
          go_meet
          exact ⟨rfl, hK25⟩
        case rest =>
        obtain ⟨rfl, hb11⟩ := hcut
        obtain ⟨w11, hw11⟩ : ∃ v, v = wc := ⟨_, rfl⟩
        rw [← hw11] at hb11 ⊢
        clear hw11 wc
        have xHJA := Lib.hid (HJA.out.below hb11)
        have xHJB := Lib.hid (HJB.out.below hb11)
        have xHJC := Lib.hid (HJC.out.below hb11)
        have xHIA := Lib.hid (HIA.out.below hb11)
        have xHIB := Lib.hid (HIB.out.below hb11)
        have xHIC := Lib.hid (HIC.out.below hb11)
        have xHTT := Lib.hid (HTT.out.below hb11)
        have xHK := Lib.hid (bt HK.out hb11)
        clear HK HJA HJB HJC HIA HIB HIC HTT
        have HJA := xHJA
        clear xHJA
        have HJB := xHJB
        clear xHJB
        have HJC := xHJC
        clear xHJC
        have HIA := xHIA
        clear xHIA
        have HIB := xHIB
        clear xHIB
        have HIC := xHIC
        clear xHIC
        have HTT := xHTT
        clear xHTT
        have HK := xHK
        clear xHK
        clear hb11
        have hdq : (za * zb + zc) / zb = za := by
          rw [Int.add_comm, Int.add_mul_ediv_right _ _ HZ.out, (div_small (by omega) hcb).1, Int.zero_add]
        have hdr : (za * zb + zc) % zb = zc := by
          rw [Int.add_comm, Int.add_mul_emod_self_right, (div_small (by omega) hcb).2]
        have HDQ := Lib.hid hdq
        have HDR := Lib.hid hdr
        clear hdq hdr hc0 hcb
        go_upto_region 10 with fail
        go_cut [10, 11, 12] (fun s t e wx => DivAt w11 za zc 0 s t e wx)
        case first =>
          as_aux_lemma =>
          have S5 : ∀ W, Below w11.heap.size w11 W → W.cell? ⟨w.heap.size, 0, none⟩ = some (.bool na) ∧ W.cell? ⟨w.heap.size, 1, none⟩ = some (.slice A l.length ca) ∧ W.cell? ⟨w.heap.size + 1, 0, none⟩ = some (.bool nb) ∧ W.cell? ⟨w.heap.size + 1, 1, none⟩ = some (.slice B k.length cb) ∧ W.cell? ⟨w.heap.size + 1 + 1, 0, none⟩ = some (.bool nc) ∧ W.cell? ⟨w.heap.size + 1 + 1, 1, none⟩ = some (.slice C m.length cc) := fun W hb =>
            ⟨cell_below HIA.out.c0 hb, cell_below HIA.out.c1 hb, cell_below HIB.out.c0 hb, cell_below HIB.out.c1 hb, cell_below HIC.out.c0 hb, cell_below HIC.out.c1 hb⟩
          have HS5 := Lib.hid S5
          clear S5
          go_region_held3 (fun W => W.cell? ⟨w.heap.size, 0, none⟩ = some (.bool na) ∧ W.cell? ⟨w.heap.size, 1, none⟩ = some (.slice A l.length ca) ∧ W.cell? ⟨w.heap.size + 1, 0, none⟩ = some (.bool nb) ∧ W.cell? ⟨w.heap.size + 1, 1, none⟩ = some (.slice B k.length cb) ∧ W.cell? ⟨w.heap.size + 1 + 1, 0, none⟩ = some (.bool nc) ∧ W.cell? ⟨w.heap.size + 1 + 1, 1, none⟩ = some (.slice C m.length cc))
            ((refine HS5.out _ ?_; (repeat (first | assumption | exact b0 _ | apply ba | apply bd | apply bw | (refine bs ?_ (by first | exact Nat.le_refl _ | (dsimp only; omega) | omega) _)))))
            (first
            | (go_at_call 18; refine (Mul_iv (HJA.out.below (by repeat (first | assumption | exact b0 _ | apply ba | apply bd | apply bw))) (HJB.out.below (by repeat (first | assumption | exact b0 _ | apply ba | apply bd | apply bw))) (z := za * zb) rfl (lt_le (lt_mul HTA.out HTB.out) (by decide))).mono ?_; rintro e w20 ⟨n20, A20, c20, l20, rfl, hv20, hb20⟩; obtain ⟨hcc20, hff20⟩ := bcell hb20; have R20 := Lib.hid hv20; clear hv20; have hK20 : Below w11.heap.size w11 w20 := bt (by repeat (first | assumption | exact b0 _ | apply ba | apply bd | apply bw)) hb20; have sz20 := hK20.size; have sy20 := hb20.size; (try simp at sy20); (try have sw20 : w11.heap.size < w20.heap.size := by omega); (try have sv20 : w11.heap.size + 1 < w20.heap.size := by omega))
            | (go_at_call 17; refine (Add_iv (R20.out.below (by repeat (first | assumption | exact b0 _ | apply ba | apply bd | apply bw))) (HJC.out.below (bt hK20 (by repeat (first | assumption | exact b0 _ | apply ba | apply bd | apply bw)))) (z := za * zb + zc) rfl (lt_le (lt_add (lt_mul HTA.out HTB.out) HTC.out) (by decide))).mono ?_; rintro e w21 ⟨n21, A21, c21, l21, rfl, hv21, hb21⟩; have R21 := Lib.hid hv21; clear hv21; have hb201 : Below w20.heap.size w20 w21 := bt (by repeat (first | assumption | exact b0 _ | apply ba | apply bd | apply bw)) hb21; have hK21 := bt hK20 hb201; obtain ⟨hcc21, hff21⟩ := bcell hb21; have sz21 := hb201.size; have sy21 := hb21.size; (try simp at sy21); (try have sw21 : w20.heap.size < w21.heap.size := by omega); (try have sv21 : w20.heap.size + 1 < w21.heap.size := by omega); (try have su21 : w11.heap.size < w21.heap.size := by omega); (try have st21 : w11.heap.size + 1 < w21.heap.size := by omega))
            | (go_at_call 24; refine (Div_ow (R21.out.below (by repeat (first | assumption | exact b0 _ | apply ba | apply bd | apply bw))) (HJB.out.below (bt hK21 (by repeat (first | assumption | exact b0 _ | apply ba | apply bd | apply bw)))) HZ.out HDQ.out HDR.out).mono ?_; rintro e w22 ⟨n22, A22, c22, l22, n23, A23, c23, l23, rfl, hv22, hv23, hb22⟩; have g6 := fun (p : Nat) h => hv22.2.1.off_ (g := p) h; have g7 := fun (p : Nat) h => hv23.2.1.off_ (g := p) h; have HG6 := Lib.hid g6; have HG7 := Lib.hid g7; clear g6 g7; have R22 := Lib.hid hv22; have R23 := Lib.hid hv23; clear hv22 hv23; have hb212 : Below w21.heap.size w21 w22 := bt (by repeat (first | assumption | exact b0 _ | apply ba | apply bd | apply bw)) hb22; have hK22 := bt hK21 hb212; obtain ⟨hcc22, hff22⟩ := bcell hb22; have sz22 := hK22.size; have sx22 := hb212.size; have sy22 := hb22.size; (try simp at sy22); (try have sw22 : w21.heap.size < w22.heap.size := by omega); (try have sv22 : w21.heap.size + 1 < w22.heap.size := by omega); (try have su22 : w20.heap.size < w22.heap.size := by omega); (try have st22 : w20.heap.size + 1 < w22.heap.size := by omega); (try have sp22 : w11.heap.size < w22.heap.size := by omega); (try have sq22 : w11.heap.size + 1 < w22.heap.size := by omega)))
          all_goals (go_wp2_with fail; go_meet)
          all_goals
            have hc6 := R22.out.1
            have hB6 := R22.out.2.2.1
            have hz6 := R22.out.2.2.2
            have hw6 := R22.out.2.1.ws
            have hc7 := R23.out.1
            have hB7 := R23.out.2.2.1
            have hz7 := R23.out.2.2.2
            have hw7 := R23.out.2.1.ws
            have g6 := HG6.out
            have g7 := HG7.out
            have G6 := fun (p : Nat) (h : w22.heap.size ≤ p) => R22.out.2.1.ws.off h
            have G7 := fun (p : Nat) (h : w22.heap.size ≤ p) => R23.out.2.1.ws.off h
            refine ⟨_, _, n22, A22, c22, l22, n23, A23, c23, l23, rfl, rfl, rfl, ?_, ?_, ?_⟩
            · repeat (first
                | (with_reducible refine IntAt.new' hc6 hB6 hz6 ?_ ?_)
                | (with_reducible refine IntAt.store' hc6 hB6 hz6 ?_ ?_ ?_)
                | (with_reducible refine IntAt.alloc ?_ _)
                | (with_reducible refine IntAt.far ?_ ?_ ?_ _ _))
              all_goals (repeat (first
                | with_reducible exact hw6
                | (with_reducible refine WS.below ?_ (ba (b0 _) _))
                | (with_reducible refine WS.two ?_ ?_ _ _)
                | (focus ((with_reducible refine Box2.new' ?_); (simp; done)))
                | (with_reducible refine Box2.alloc ?_ _)
                | (with_reducible refine Box2.far ?_ ?_ _ _)
                | (with_reducible refine Box2.below ?_ hb22)
                | (with_reducible refine Box2.below ?_ hb21)
                | (with_reducible refine Box2.below ?_ hb20)
                | exact G6 _ (by omega)
                | exact g6 _ (by first | (simp; done) | (simp; omega) | omega)
                | omega
                | (focus (simp; done))
                | (with_reducible refine Box2.drew' ?_)))
            · repeat (first
                | (with_reducible refine IntAt.new' hc7 hB7 hz7 ?_ ?_)
                | (with_reducible refine IntAt.store' hc7 hB7 hz7 ?_ ?_ ?_)
                | (with_reducible refine IntAt.alloc ?_ _)
                | (with_reducible refine IntAt.far ?_ ?_ ?_ _ _))
              all_goals (repeat (first
                | with_reducible exact hw7
                | (with_reducible refine WS.below ?_ (ba (b0 _) _))
                | (with_reducible refine WS.two ?_ ?_ _ _)
                | (focus ((with_reducible refine Box2.new' ?_); (simp; done)))
                | (with_reducible refine Box2.alloc ?_ _)
                | (with_reducible refine Box2.far ?_ ?_ _ _)
                | (with_reducible refine Box2.below ?_ hb22)
                | (with_reducible refine Box2.below ?_ hb21)
                | (with_reducible refine Box2.below ?_ hb20)
                | exact G7 _ (by omega)
                | exact g7 _ (by first | (simp; done) | (simp; omega) | omega)
                | omega
                | (focus (simp; done))
                | (with_reducible refine Box2.drew' ?_)))
            · repeat (first | exact hK22 | (with_reducible refine ba ?_ _) | (with_reducible refine bs ?_ ?_ _))
              all_goals (first | exact Nat.le_refl _ | (dsimp only; omega) | omega)
        case rest =>
        obtain ⟨p3, p4, n3, A3, c3, l3, n4, A4, c4, l4, rfl, rfl, rfl, I3, I4, hb12⟩ := hcut
        obtain ⟨w12, hw12⟩ : ∃ v, v = wc := ⟨_, rfl⟩
        rw [← hw12] at I3 I4 hb12 ⊢
        clear hw12 wc
        have V3 := Lib.hid (I3.iv (lt_le HTA.out (by decide)))
        have V4 := Lib.hid (I4.iv (lt_le HTC.out (by decide)))
        have HI3 := Lib.hid I3
        have HI4 := Lib.hid I4
        clear I3 I4
        have xHJA := Lib.hid (HJA.out.below hb12)
        have xHJB := Lib.hid (HJB.out.below hb12)
        have xHJC := Lib.hid (HJC.out.below hb12)
        have xHIA := Lib.hid (HIA.out.below hb12)
        have xHIB := Lib.hid (HIB.out.below hb12)
        have xHIC := Lib.hid (HIC.out.below hb12)
        have xHTT := Lib.hid (HTT.out.below hb12)
        have xHK := Lib.hid (bt HK.out hb12)
        clear HK HJA HJB HJC HIA HIB HIC HTT
        have HJA := xHJA
        clear xHJA
        have HJB := xHJB
        clear xHJB
        have HJC := xHJC
        clear xHJC
        have HIA := xHIA
        clear xHIA
        have HIB := xHIB
        clear xHIB
        have HIC := xHIC
        clear xHIC
        have HTT := xHTT
        clear xHTT
        have HK := xHK
        clear xHK
        clear hb12 HDQ HDR
        go_wp2_with fail
        refine (sane_any w12 HTT.out).mono ?_
        rintro e w13 ⟨rfl, hb13⟩
        have xHJA := Lib.hid (HJA.out.below hb13)
        have xHJB := Lib.hid (HJB.out.below hb13)
        have xHJC := Lib.hid (HJC.out.below hb13)
        have xHIA := Lib.hid (HIA.out.below hb13)
        have xHIB := Lib.hid (HIB.out.below hb13)
        have xHIC := Lib.hid (HIC.out.below hb13)
        have xHTT := Lib.hid (HTT.out.below hb13)
        have xV3 := Lib.hid (V3.out.below hb13)
        have xV4 := Lib.hid (V4.out.below hb13)
        have xHI3 := Lib.hid (HI3.out.below hb13)
        have xHI4 := Lib.hid (HI4.out.below hb13)
        have xHK := Lib.hid (bt HK.out hb13)
        clear HK HJA HJB HJC HIA HIB HIC HTT V3 V4 HI3 HI4
        have HJA := xHJA
        clear xHJA
        have HJB := xHJB
        clear xHJB
        have HJC := xHJC
        clear xHJC
        have HIA := xHIA
        clear xHIA
        have HIB := xHIB
        clear xHIB
        have HIC := xHIC
        clear xHIC
        have HTT := xHTT
        clear xHTT
        have V3 := xV3
        clear xV3
        have V4 := xV4
        clear xV4
        have HI3 := xHI3
        clear xHI3
        have HI4 := xHI4
        clear xHI4
        have HK := xHK
        clear xHK
        clear hb13
        have a0 := HIA.out.c0
        have a1 := HIA.out.c1
        have d0 := HI3.out.c0
        have d1 := HI3.out.c1
        go_wp2_with fail
        refine (Same_iv V3.out HJA.out).mono ?_
        rintro e w14 ⟨rfl, hb14⟩
        clear a0 a1 d0 d1
        have a0 := cell_below HIC.out.c0 hb14
        have a1 := cell_below HIC.out.c1 hb14
        have d0 := cell_below HI4.out.c0 hb14
        have d1 := cell_below HI4.out.c1 hb14
        go_wp2_with fail
        refine (Same_iv (V4.out.below hb14) (HJC.out.below hb14)).mono ?_
        rintro e w15 ⟨rfl, hb15⟩
        go_wp2_with fail
        go_ret
        exact ⟨rfl, bt (bt HK.out hb14) hb15⟩
      · go_upto_region 8 with fail
        go_cut [82] (fun s wx => s = .bool true ∧ Below w10.heap.size w10 wx)
        case first =>
          as_aux_lemma =>
          have S5 : ∀ W, Below w10.heap.size w10 W → W.cell? ⟨w.heap.size + 1, 0, none⟩ = some (.bool nb) ∧ W.cell? ⟨w.heap.size + 1, 1, none⟩ = some (.slice B k.length cb) ∧ W.cell? ⟨w.heap.size + 1 + 1, 0, none⟩ = some (.bool nc) ∧ W.cell? ⟨w.heap.size + 1 + 1, 1, none⟩ = some (.slice C m.length cc) := fun W hb =>
            ⟨cell_below HIB.out.c0 hb, cell_below HIB.out.c1 hb, cell_below HIC.out.c0 hb, cell_below HIC.out.c1 hb⟩
          have HS5 := Lib.hid S5
          clear S5
          obtain ⟨s, hs⟩ : ∃ s, s = cmpI zc 0 := ⟨_, rfl⟩
          have hs0 : decide (s < 0) = false := by
            rw [hs]; refine decide_eq_false (fun h => ?_)
            unfold cmpI at h; split at h
            · omega
            · split at h <;> omega
          have hs0' : ¬ (s < 0) := of_decide_eq_false hs0
          obtain ⟨u, hu⟩ : ∃ u, u = cmpI zc (zb.natAbs : Int) := ⟨_, rfl⟩
          have hu0 : decide (0 ≤ u) = true := by
            rw [hu]; refine decide_eq_true ?_
            unfold cmpI; rw [if_neg hcb]; split <;> omega
          have hu0' : 0 ≤ u := of_decide_eq_true hu0
          have HSV := Lib.hid hs
          have HUV := Lib.hid hu
          clear hs hu
          go_region_held3 (fun W => W.cell? ⟨w.heap.size + 1, 0, none⟩ = some (.bool nb) ∧ W.cell? ⟨w.heap.size + 1, 1, none⟩ = some (.slice B k.length cb) ∧ W.cell? ⟨w.heap.size + 1 + 1, 0, none⟩ = some (.bool nc) ∧ W.cell? ⟨w.heap.size + 1 + 1, 1, none⟩ = some (.slice C m.length cc))
            (first | (refine HS5.out _ ?_; (first | assumption | exact bd (b0 _) _ | exact b0 _)))
            (first
            | (go_at_call 23; refine (Sign_iv (HJC.out.below (bd (b0 _) _)) HSV.out.symm).mono ?_; rintro e w23 ⟨rfl, hb23⟩; have hK23 := bdn hb23)
            | (go_at_call 25; refine (Abs_iv (HJB.out.below hK23) rfl (lt_le (show Lt 60 (zb.natAbs : Int) from HTB.out) (by decide))).mono ?_; rintro e w24 ⟨n24, A24, c24, l24, rfl, hv24, hb24⟩; have R24 := Lib.hid hv24; clear hv24; have hK24 := bt hK23 hb24)
            | (go_at_call 22; refine (Cmp_iv (HJC.out.below hK24) R24.out HUV.out.symm).mono ?_; rintro e w25 ⟨rfl, hb25⟩; have hK25 := bt hK24 hb25))
          go_wp2_with fail
          go_meet
          exact ⟨rfl, hK25⟩
        case rest =>
        obtain ⟨rfl, hb11⟩ := hcut
        obtain ⟨w11, hw11⟩ : ∃ v, v = wc := ⟨_, rfl⟩
        rw [← hw11] at hb11 ⊢
        clear hw11 wc
        go_wp2_with fail
        refine (sane_any w11 (HTT.out.below hb11)).mono ?_
        rintro e w12 ⟨rfl, hb12⟩
        go_wp2_with fail
        go_ret
        exact ⟨rfl, bt (bt HK.out hb11) hb12⟩

set_option maxRecDepth 100000 in
set_option maxHeartbeats 1000000 in
theorem NumDivision_long (w : World) (na nb nc : Bool) (A B C : Option Addr) (x y z cx cy cz : Nat) (hlong : ¬ (x ≤ 60 ∧ y ≤ 60 ∧ z ≤ 60)) (hT : Tens w) :
    Calls Tryd.prog 5 #[.agg #[.bool na, .slice A x cx], .agg #[.bool nb, .slice B y cy], .agg #[.bool nc, .slice C z cz]] w fun e w' => e = .returned (.bool true) ∧ Below w.heap.size w w' := by
  have HTn := Lib.hid hT
  have hsh := fun W => short_wide 60 na nb nc A B C x y z cx cy cz W (by omega) false (by rw [Bool.eq_false_iff]; intro h; simp only [Bool.and_eq_true, decide_eq_true_eq] at h; exact hlong ⟨h.1.1, h.1.2, h.2⟩)
  have HSH := Lib.hid hsh
  clear hT hsh hlong
  go_enter Tryd.func5, Tryd.ntmps5
  go_wp2_with fail
  refine (HSH.out _).mono ?_
  rintro e w2 ⟨rfl, hb2⟩
  have hb : Below w.heap.size w w2 := bt (ba (ba (ba (b0 _) _) _) _) hb2
  go_wp2_with fail
  refine (sane_any w2 (HTn.out.below hb)).mono ?_
  rintro e w3 ⟨rfl, hb3⟩
  go_wp2_with fail
  go_ret
  exact ⟨rfl, bt hb hb3⟩

set_option maxRecDepth 100000 in
set_option maxHeartbeats 2000000 in
theorem NumDivision_not (w : World) (na nb nc : Bool) (A B C : Option Addr) (ca cb cc : Nat) (l k m : List Nat) (p q r : Bool) (hl : WS w A l) (hk : WS w B k) (hm : WS w C m) (hl1 : l.length ≤ 60) (hk1 : k.length ≤ 60) (hm1 : m.length ≤ 60)
    (hp : isB na l = p) (hq : isB nb k = q) (hr : isB nc m = r) (hnot : (p && q && r) = false) (hT : Tens w) :
    Calls Tryd.prog 5 #[.agg #[.bool na, .slice A l.length ca], .agg #[.bool nb, .slice B k.length cb], .agg #[.bool nc, .slice C m.length cc]] w fun e w' => e = .returned (.bool true) ∧ Below w.heap.size w w' := by
  have HTn := Lib.hid hT
  have HA := Lib.hid hp
  have HB := Lib.hid hq
  have HC := Lib.hid hr
  have HN := Lib.hid hnot
  have hsh := fun W => short_wide 60 na nb nc A B C l.length k.length m.length ca cb cc W (by omega) true (by simp [hl1, hk1, hm1])
  have HSH := Lib.hid hsh
  clear hT hp hq hr hsh hnot
  go_enter Tryd.func5, Tryd.ntmps5
  go_wp2_with fail
  obtain ⟨W1, hW1⟩ : ∃ W, W = ((w.alloc (bx na A l.length ca)).alloc (bx nb B k.length cb)).alloc (bx nc C m.length cc) := ⟨_, rfl⟩
  have Y0 : Box2 W1 w.heap.size (.bool na) (.slice A l.length ca) := by rw [hW1]; exact ((Box2.new w _ _).alloc _).alloc _
  have Y1 : Box2 W1 (w.heap.size + 1) (.bool nb) (.slice B k.length cb) := by
    rw [hW1]
    have h := (Box2.new (w.alloc (bx na A l.length ca)) (.bool nb) (.slice B k.length cb)).alloc (bx nc C m.length cc)
    rwa [World.size_alloc] at h
  have Y2 : Box2 W1 (w.heap.size + 1 + 1) (.bool nc) (.slice C m.length cc) := by
    rw [hW1]
    have h := Box2.new ((w.alloc (bx na A l.length ca)).alloc (bx nb B k.length cb)) (.bool nc) (.slice C m.length cc)
    rwa [World.size_alloc, World.size_alloc] at h
  have K1 : Below w.heap.size w W1 := by rw [hW1]; exact ba (ba (ba (b0 _) _) _) _
  change Calls _ _ _ (((w.alloc (bx na A l.length ca)).alloc (bx nb B k.length cb)).alloc (bx nc C m.length cc)) _
  rw [← hW1]
  clear hW1
  refine (HSH.out W1).mono ?_
  rintro e w2 ⟨rfl, hb2⟩
  have K2 : Below w.heap.size w w2 := bt K1 hb2
  have y0 := (Y0.below hb2).cell0
  have y1 := (Y0.below hb2).cell1
  go_wp2_with fail
  refine (RIs_any na A l.length ca l w2 rfl (by omega) (hl.below K2)).mono ?_
  rintro e w3 ⟨rfl, hb3⟩
  rw [HA.out]
  cases p
  · skip
    have K := bt K2 hb3
    clear HN
    go_wp2_with fail
    refine (sane_any w3 (HTn.out.below K)).mono ?_
    rintro e w9 ⟨rfl, hb9⟩
    go_wp2_with fail
    go_ret
    exact ⟨rfl, bt K hb9⟩
  skip
  have K3 := bt K2 hb3
  clear y0 y1
  have y0 := ((Y1.below hb2).below hb3).cell0
  have y1 := ((Y1.below hb2).below hb3).cell1
  go_wp2_with fail
  refine (RIs_any nb B k.length cb k w3 rfl (by omega) (hk.below K3)).mono ?_
  rintro e w4 ⟨rfl, hb4⟩
  rw [HB.out]
  cases q
  · skip
    have K := bt K3 hb4
    clear HN
    go_wp2_with fail
    refine (sane_any w4 (HTn.out.below K)).mono ?_
    rintro e w9 ⟨rfl, hb9⟩
    go_wp2_with fail
    go_ret
    exact ⟨rfl, bt K hb9⟩
  skip
  have K4 := bt K3 hb4
  clear y0 y1
  have y0 := (((Y2.below hb2).below hb3).below hb4).cell0
  have y1 := (((Y2.below hb2).below hb3).below hb4).cell1
  go_wp2_with fail
  refine (RIs_any nc C m.length cc m w4 rfl (by omega) (hm.below K4)).mono ?_
  rintro e w5 ⟨rfl, hb5⟩
  rw [HC.out]
  cases r
  · skip
    have K := bt K4 hb5
    clear HN
    go_wp2_with fail
    refine (sane_any w5 (HTn.out.below K)).mono ?_
    rintro e w9 ⟨rfl, hb9⟩
    go_wp2_with fail
    go_ret
    exact ⟨rfl, bt K hb9⟩
  exact absurd HN.out (by decide)

theorem NumDivision_walk (w : World) (na nb nc : Bool) (A B C : Option Addr) (ca cb cc : Nat) (l k m : List Nat) (hl : WS w A l) (hk : WS w B k) (hm : WS w C m) (hca : l.length ≤ ca) (hcb : k.length ≤ cb) (hcc : m.length ≤ cc) (hT : Tens w) :
    Calls Tryd.prog 5 #[.agg #[.bool na, .slice A l.length ca], .agg #[.bool nb, .slice B k.length cb], .agg #[.bool nc, .slice C m.length cc]] w fun e w' => e = .returned (.bool true) ∧ Below w.heap.size w w' := by
  by_cases h : l.length ≤ 60 ∧ k.length ≤ 60 ∧ m.length ≤ 60
  · by_cases hc : (isB na l && isB nb k && isB nc m) = true
    · simp only [Bool.and_eq_true] at hc
      exact NumDivision_look w na nb nc A B C ca cb cc l k m hl hk hm h.1 h.2.1 h.2.2 hca hcb hcc hc.1.1 hc.1.2 hc.2 hT
    · exact NumDivision_not w na nb nc A B C ca cb cc l k m _ _ _ hl hk hm h.1 h.2.1 h.2.2 rfl rfl rfl (by simpa using hc) hT
  · exact NumDivision_long w na nb nc A B C _ _ _ ca cb cc h hT
end Go.Proofs.YtaaipcjbmdbndaaDoor
