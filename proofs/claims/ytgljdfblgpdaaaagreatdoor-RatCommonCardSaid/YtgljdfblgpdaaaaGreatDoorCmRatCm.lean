import Derived.Test.YtgljdfblgpdaaaaGreatDoorPbSanA
import Derived.Test.YtgljdfblgpdaaaaGreatDoorCmRatLs
import Derived.Test.YtgljdfblgpdaaaaGreatDoorCmRatMul
import Derived.Test.YtgljdfblgpdaaaaGreatDoorCmComM
import Derived.Test.YtgljdfblgpdaaaaGreatDoorCmSimE
set_option linter.unusedSimpArgs false
set_option linter.unusedVariables false
set_option maxRecDepth 100000
set_option maxHeartbeats 4000000
namespace Go.Proofs.YtgljdfblgpdaaaaGreatDoor
open Go.RowKit Go.Shelf
variable {A : Option Addr} {D N c i j : Nat} {W : World}
theorem CL.get {ys : List Int} (h : CL W D N ys j) (hi : i < j) : ∃ n B d k, El2 W D (i * 2) (.bool n) (.slice B (List.length k) d) ∧ IV W n B d k (ys.getD i 0) := by
 obtain ⟨cur, hc, hs, hn, hx⟩ := h
 obtain ⟨n, B, d, k, e1, e2, iv⟩ := hx i hi
 exact ⟨n, B, d, k, ⟨hc.lt, (Cells.at_ hc _).trans e1, (Cells.at_ hc _).trans e2⟩, iv⟩
theorem CL.lt {ys : List Int} (h : CL W D N ys j) : D < W.heap.size := by
 obtain ⟨cur, hc, _⟩ := h
 exact hc.lt
theorem Make_q {w : World} {n m : Bool} {A B : Option Addr} {c d : Nat} {l k : List Nat} {x y : Int} {q : Rat} (h : IV w n A c l x) (h2 : IV w m B d k y) (hs : 0 < y) (hq : q.num * y = x * q.den) (l1 : Lt i q.num) (l2 : Lt i (q.den : Int)) :
  Calls Tryz.prog 29 #[.agg #[.bool n, .slice A l.length c], .agg #[.bool m, .slice B k.length d]] w (RQX i w q 0) := by
 obtain ⟨e1, e2⟩ := f_eq (can_rat q) (by omega) hq
 exact (Make_pos h h2 hs).mono fun e w' hr => hr.toQ e1 e2 (by rw [← e1]; exact l1) (by rw [← e2]; exact l2)
theorem cm_get {rs : List Rat} {d : Int} (hi : i < rs.length) : ((rs.map fun q : Rat => (q.num, (q.den : Int))).map fun p => p.1 * (d / p.2)).getD i 0 = (rs.getD i 0).num * (d / ((rs.getD i 0).den : Int)) := by
 rw [List.getD_eq_getElem?_getD, List.getD_eq_getElem?_getD, List.getElem?_map, List.getElem?_map, List.getElem?_eq_getElem hi]; rfl
theorem cm_lm (rs : List Rat) : ((rs.map fun q : Rat => (q.num, (q.den : Int))).map fun p => p.2.toNat) = rs.map (·.den) := by
 rw [List.map_map]; refine List.map_congr_left fun q _ => ?_; simp
theorem cm_mem {rs : List Rat} (hi : i < rs.length) : rs.getD i 0 ∈ rs := by
 rw [List.getD_eq_getElem?_getD, List.getElem?_eq_getElem hi]; exact List.getElem_mem hi
theorem cm_pos (rs : List Rat) : (0 : Int) < ((LM (rs.map (·.den)) : Nat) : Int) := by
 have := LM_pos (l := rs.map (·.den)) (fun x hx => by
  obtain ⟨q, _, rfl⟩ := List.mem_map.1 hx
  exact Nat.pos_of_ne_zero q.den_nz)
 omega
theorem cm_eq {rs : List Rat} {q : Rat} (hq : q ∈ rs) : q.num * ((LM (rs.map (·.den)) : Nat) : Int) = (q.num * (((LM (rs.map (·.den)) : Nat) : Int) / (q.den : Int))) * (q.den : Int) := by
 have h : q.den ∣ LM (rs.map (·.den)) := dvd_LM (List.mem_map.2 ⟨q, hq, rfl⟩)
 rw [Int.mul_assoc, Int.ediv_mul_cancel (Int.natCast_dvd_natCast.2 h)]
theorem cm_one {rs : List Rat} {G : Nat} (hd : G ∣ LM (rs.map (·.den))) (hn : ∀ i, i < rs.length → G ∣ ((rs.getD i 0).num * (((LM (rs.map (·.den)) : Nat) : Int) / ((rs.getD i 0).den : Int))).natAbs) : G = 1 := by
 have e : (rs.map fun q : Rat => (q.num, q.den)).map (·.2) = rs.map (·.den) := by rw [List.map_map]; rfl
 refine common_one (l := rs.map fun q : Rat => (q.num, q.den)) (fun p hp => ?_) (by rw [e]; exact hd) (fun p hp => ?_)
 ·obtain ⟨q, _, rfl⟩ := List.mem_map.1 hp
  exact ⟨Nat.pos_of_ne_zero q.den_nz, q.reduced⟩
 ·rw [e]
  obtain ⟨q, hq, rfl⟩ := List.mem_map.1 hp
  obtain ⟨i, hi, rfl⟩ := List.getElem_of_mem hq
  have h := hn i hi
  rw [List.getD_eq_getElem?_getD, List.getElem?_eq_getElem hi] at h
  rw [Int.natCast_ediv]
  exact h
def sm6 (a : QW) : Bool := decide (a.l.length ≤ 6) && decide (a.k.length ≤ 6) && isQ a.n a.l a.m a.k
theorem mfb9c1 {P : Prop} (h : P := by
 refine cl 10 fun K hK => ?_
 obtain ⟨f0, f1, f2, f3⟩ := xa.fr
 obtain ⟨r0, r1, r2, r3⟩ := xa.cs
 go_simp
 clear f0 f1 f2 f3 r0 r1 r2 r3
 have HBz := Hi (b4 HBu2.out hL.out (.bool av.n) (.slice av.A av.l.length av.c) (.bool av.m) (.slice av.B av.k.length av.d))
 have HNz := Hi (QV.mk (q := q) (M := 6) (a := av) (HN.out.num.four xa (.bool av.n) (.slice av.A av.l.length av.c) (.bool av.m) (.slice av.B av.k.length av.d)) (HN.out.den.four xa (.bool av.n) (.slice av.A av.l.length av.c) (.bool av.m) (.slice av.B av.k.length av.d)))
 have XAz := xa.stored (.bool av.n) (.slice av.A av.l.length av.c) (.bool av.m) (.slice av.B av.k.length av.d)
 clear hHeld
 refine rk hK (HC.out _ HBz.out) fun hHeld => ?_
 clear hK K
 refine tk 11 ?_
 refine wpAnyH_done (by kernel_rfl) ?_ _
 clear hHeld
 have HZ := Hi (show Laid1 w7 6 q (.pointer (some ⟨pa, 0, none⟩)) (.int .i64 0) _ from ⟨av, pa, ⟨rfl, hL.out, XAz, HNz.out⟩, rfl, HBz.out⟩)
 go_wp2_with fail
 try simp only [Act.put, List.setIfInBounds_toArray, List.set_cons_zero, List.set_cons_succ]
 go_meet
 exact HZ.out) : P := h
theorem RatCommon_walk (w : World) {qs : List QW} (h : RL w A qs) (hlen : qs.length ≤ c) (hT : Tens w) :
  Calls Tryz.prog 6 #[.slice A qs.length c] w fun e w' => e = .returned (.bool true) ∧ Below w.heap.size w w' := by
 have HTn := Hi hT
 have H := Hi h
 have HL := Hi hlen
 clear hT h hlen
 have hw0 := b0 w
 go_enter Tryz.func6, Tryz.ntmps6
 go_wp2_with fail
 have HB0 := Hi hw0
 clear hw0
 go_loopw [3] (fun iv wr => ∃ j : Nat, iv = .int .i64 (j : Int) ∧ j ≤ qs.length ∧ (j = 0 ∨ qs.length ≤ 20) ∧ Hid (∀ i, i < j → sm6 (qs.getD i zq) = true) ∧ Hid (Below w.heap.size w wr)) (fun iv wr => qs.length - (intOf iv).toNat)
 case atStart => exact ⟨0, rfl, Nat.zero_le _, .inl rfl, Hi (fun i hi => by omega), HB0⟩
 case round =>
  obtain ⟨j, rfl, hjl, hj20, HS, HBJ⟩ := hrel
  clear HB0
  obtain ⟨wo, hwo⟩ : ∃ wo, wo = wr := ⟨_, rfl⟩
  rw [← hwo] at HBJ ⊢
  clear hwo wr
  by_cases hjn : j < qs.length
  ·have hji : (j : Int) < (qs.length : Int) := by omega
   have hj0 : ¬ (j : Int) < 0 := by omega
   by_cases h20 : qs.length ≤ 20
   ·have hg : ¬ (20 : Int) < (qs.length : Int) := by omega
    obtain ⟨b, off, rfl, hbl, hq⟩ := (H.out.below HBJ.out) (by rintro rfl; simp at hjn)
    obtain ⟨e0, e1, e2, e3, s1, s2, s3, s4⟩ := hq j hjn
    obtain ⟨a, ha⟩ : ∃ a, a = qs.getD j zq := ⟨_, rfl⟩
    rw [← ha] at e0 e1 e2 e3 s1 s2 s3 s4
    have HA := Hi ha
    have S1 := Hi s1
    have S2 := Hi s2
    have S3 := Hi s3
    have S4 := Hi s4
    clear ha s1 s2 s3 s4 hq
    go_wp2_with fail
    refine (small_any (N := 6) (by decide) S1.out S2.out S3.out S4.out).mono ?_
    rintro e w2 ⟨rfl, hb⟩
    have hwb := bt HBJ.out hb
    clear e0 e1 e2 e3 S1 S2 S3 S4 HBJ hb hbl
    cases hsm : sm6 a with
    | false =>
     unfold sm6 at hsm
     rw [hsm]
     have HWB := Hi hwb
     clear hwb hsm
     go_wp2_with fail
     refine (sane2 _ (HTn.out.below HWB.out)).mono ?_
     rintro e1 wz ⟨rfl, hb⟩
     have hwz := bt HWB.out hb
     clear hb
     go_wp2_with fail
     go_ret
     exact ⟨rfl, hwz⟩
    | true =>
     have HSJ : Hid (∀ i, i < j + 1 → sm6 (qs.getD i zq) = true) := Hi (fun i hi => by
      rcases Nat.lt_or_ge i j with h1 | h1
      ·exact HS.out i h1
      ·obtain rfl : i = j := by omega
       rw [← HA.out]; exact hsm)
     unfold sm6 at hsm
     rw [hsm]
     have HWB := Hi hwb
     clear hwb hsm
     go_wp2_with fail
     go_roundw
     case rel =>
      have hwj : wrap64 ((j : Int) + 1) = ((j + 1 : Nat) : Int) := by unfold wrap64; omega
      exact ⟨j + 1, by first | rfl | rw [hwj] | simp, by omega, .inr h20, HSJ, HWB⟩
     case measure =>
      have hwj : wrap64 ((j : Int) + 1) = ((j + 1 : Nat) : Int) := by unfold wrap64; omega
      try rw [hwj]
      simp [intOf]
      omega
   ·have hg : (20 : Int) < (qs.length : Int) := by omega
    go_wp2_with fail
    refine (sane2 _ (HTn.out.below HBJ.out)).mono ?_
    rintro e1 wz ⟨rfl, hb⟩
    have hwz := bt HBJ.out hb
    clear hb
    go_wp2_with fail
    go_ret
    exact ⟨rfl, hwz⟩
  ·have hji : ¬ (j : Int) < (qs.length : Int) := by omega
   obtain rfl : j = qs.length := by omega
   have h20 : qs.length ≤ 20 := by omega
   obtain ⟨rs, hrl, hrs⟩ := list_pick (p := fun i q => QV 6 w (qs.getD i zq) q) 0 qs.length (fun i hi => by
    obtain ⟨b, off, rfl, hbl, hq⟩ := H.out (by rintro rfl; simp at hi)
    obtain ⟨e0, e1, e2, e3, s1, s2, s3, s4⟩ := hq i hi
    exact small_q s1 s2 s3 s4 (HS.out i hi))
   obtain ⟨zs, hzs⟩ : ∃ zs, zs = rs.map (fun q : Rat => (q.num, (q.den : Int))) := ⟨_, rfl⟩
   have hzl : zs.length = qs.length := by rw [hzs]; simp [hrl]
   have hzg : ∀ i, i < qs.length → zs.getD i (0, 0) = ((rs.getD i 0).num, ((rs.getD i 0).den : Int)) := fun i hi => by
    rw [hzs, List.getD_eq_getElem?_getD, List.getD_eq_getElem?_getD, List.getElem?_map, List.getElem?_eq_getElem (by omega)]; rfl
   have hz6 : ∀ i, i < zs.length → Can (zs.getD i (0, 0)).1 (zs.getD i (0, 0)).2 ∧ Lt 6 (zs.getD i (0, 0)).1 ∧ Lt 6 (zs.getD i (0, 0)).2 := fun i hi => by
    rw [hzg i (by omega)]
    have hv := hrs i (by omega)
    exact ⟨can_rat _, hv.num.lt, hv.den.lt⟩
   have hql : QL wo A zs := fun h0 => by
    obtain ⟨b, off, e, hbl, hq⟩ := (H.out.below HBJ.out) (by rintro rfl; exact h0 (List.eq_nil_of_length_eq_zero hzl))
    refine ⟨b, off, e, hbl, fun i hi => ?_⟩
    obtain ⟨e0, e1, e2, e3, s1, s2, s3, s4⟩ := hq i (by omega)
    rw [hzg i (by omega)]
    have hv := (hrs i (by omega)).below HBJ.out
    exact ⟨_, _, _, _, _, _, _, _, e0, e1, e2, e3, hv.i1 (by decide), hv.i2 (by decide)⟩
   have hcm := Common_any wo A c zs hql (by omega) hz6
   have hlm := cm_lm rs
   rw [← hzs] at hlm
   rw [hlm] at hcm
   obtain ⟨d, hd⟩ : ∃ d, d = ((LM (rs.map (·.den)) : Nat) : Int) := ⟨_, rfl⟩
   rw [← hd] at hcm
   obtain ⟨ns, hns⟩ : ∃ ns, ns = zs.map (fun p => p.1 * (d / p.2)) := ⟨_, rfl⟩
   have hnl : ns.length = qs.length := by rw [hns]; simp [hzl]
   have hdp : 0 < d := by rw [hd]; exact cm_pos rs
   have HNG : Hid (∀ i, i < qs.length → ns.getD i 0 = (rs.getD i 0).num * (d / ((rs.getD i 0).den : Int))) := Hi (fun i hi => by rw [hns, hzs]; exact cm_get (by omega))
   rw [hzl, ← hns] at hcm
   have HCM := Hi hcm
   have HRL := Hi hrl
   have HRS := Hi hrs
   have HD := Hi hd
   have HDP := Hi hdp
   have HNL := Hi hnl
   have H20 := Hi h20
   clear hcm hrl hrs hzs hzl hzg hz6 hql hd hns hnl h20 hjl hj20 hlm hdp zs HS
   have HBO := HBJ
   clear HBJ
   go_wp2_with fail
   refine HCM.out.mono ?_
   rintro e w2 ⟨g, n1, A1, c1, l1, rfl, hg, hcl, i1, hb⟩
   rw [HNL.out] at hcl ⊢
   have hw2 := bt HBO.out hb
   have HCL := Hi hcl
   have I1 := Hi i1
   have HW2 := Hi hw2
   have hgl := hcl.lt
   clear hcl i1 hw2 hb HCM
   go_wp2_with fail
   obtain ⟨w3, hw⟩ : ∃ W, W = w2.alloc (.cells #[.bool n1, .slice A1 l1.length c1] 24) := ⟨_, rfl⟩
   have xd : Box2 w3 w2.heap.size (.bool n1) (.slice A1 l1.length c1) := by rw [hw]; exact Box2.new _ _ _
   have hb : Below w2.heap.size w2 w3 := by rw [hw]; exact ba (b0 _) _
   obtain ⟨pd, hpd⟩ : ∃ p, p = w2.heap.size := ⟨_, rfl⟩
   rw [← hw]
   rw [← hpd] at xd hgl ⊢
   have hpw : w.heap.size ≤ pd := by have := HW2.out.size; omega
   clear hw hpd
   replace HCL := Hi (HCL.out.below hb)
   replace I1 := Hi (I1.out.below hb)
   have HW3 := Hi (bt HW2.out hb)
   clear hb HW2
   refine (RSign_iv (v := 1) I1.out (by have := HDP.out; unfold cmpI; rw [if_neg (by omega), if_neg (by omega)])).mono ?_
   rintro e w4 ⟨rfl, hb⟩
   replace xd := xd.below hb
   replace HCL := Hi (HCL.out.below hb)
   replace I1 := Hi (I1.out.below hb)
   have HW4 := Hi (bt HW3.out hb)
   clear hb HW3
   obtain ⟨r0, r1⟩ := xd.cs
   go_wp2_with fail
   clear r0 r1
   obtain ⟨w5, hw⟩ : ∃ W, W = w4.alloc (.cells #[.bool n1, .slice A1 l1.length c1] 24) := ⟨_, rfl⟩
   have xg : Box2 w5 w4.heap.size (.bool n1) (.slice A1 l1.length c1) := by rw [hw]; exact Box2.new _ _ _
   have hb : Below w4.heap.size w4 w5 := by rw [hw]; exact ba (b0 _) _
   obtain ⟨pg, hpg⟩ : ∃ p, p = w4.heap.size := ⟨_, rfl⟩
   have hdg : pd < pg := by rw [hpg]; exact xd.lt
   rw [← hw]
   rw [← hpg] at xg ⊢
   clear hw hpg
   have XD5 := Hi (xd.below hb)
   have XG5 := Hi xg
   have HC5 := Hi (HCL.out.below hb)
   have ID5 := Hi (I1.out.below hb)
   have HW5 := Hi (bt HW4.out hb)
   have IG5 : Hid (IV w5 n1 A1 c1 l1 ((d.natAbs : Nat) : Int)) := Hi (by rw [Int.natAbs_of_nonneg (Int.le_of_lt HDP.out)]; exact ID5.out)
   have HG5 : Hid (0 < d.natAbs ∧ d.natAbs ∣ d.natAbs ∧ ∀ i, i < 0 → d.natAbs ∣ (ns.getD i 0).natAbs) := Hi ⟨by have := HDP.out; omega, Nat.dvd_refl _, fun i hi => by omega⟩
   clear hb HW4 xd xg HCL I1 hg hjn hji
   go_loopw [8] (fun iv wr => ∃ (j G : Nat) (n : Bool) (B : Option Addr) (c' : Nat) (k : List Nat), iv = .int .i64 (j : Int) ∧ j ≤ qs.length ∧ Hid (0 < G ∧ G ∣ d.natAbs ∧ ∀ i, i < j → G ∣ (ns.getD i 0).natAbs) ∧ Hid (Box2 wr pg (.bool n) (.slice B k.length c')) ∧ Hid (IV wr n B c' k (G : Int)) ∧ Hid (CL wr g qs.length ns qs.length) ∧ Hid (Box2 wr pd (.bool n1) (.slice A1 l1.length c1)) ∧ Hid (IV wr n1 A1 c1 l1 d) ∧ Hid (Below w.heap.size w wr)) (fun iv wr => qs.length - (intOf iv).toNat)
   case atStart => exact ⟨0, d.natAbs, n1, A1, c1, l1, rfl, Nat.zero_le _, HG5, XG5, IG5, HC5, XD5, ID5, HW5⟩
   case round =>
    obtain ⟨j, G, n2, B2, c2, k2, rfl, hjl, HG, XG, IG, HCL, XD, ID, HBJ⟩ := hrel
    clear HG5 XG5 IG5 HC5 XD5 ID5 HW5
    obtain ⟨wp, hwp⟩ : ∃ wp, wp = wr := ⟨_, rfl⟩
    rw [← hwp] at XG IG HCL XD ID HBJ ⊢
    clear hwp wr
    by_cases hjn : j < qs.length
    ·have hji : (j : Int) < (qs.length : Int) := by omega
     have hj0 : ¬ (j : Int) < 0 := by omega
     obtain ⟨n3, B3, d3, k3, xe, i3⟩ := HCL.out.get hjn
     have I3 := Hi i3
     have XE := Hi xe
     clear i3 xe
     obtain ⟨b, off, rfl, hbl, hq⟩ := H.out (by rintro rfl; simp at hjn)
     have HQ := Hi (hq j hjn)
     have hqv := HRS.out j hjn
     obtain ⟨a, ha⟩ : ∃ a, a = qs.getD j zq := ⟨_, rfl⟩
     rw [← ha] at HQ hqv
     have hqq := cm_eq (cm_mem (show j < rs.length by have := HRL.out; omega))
     have hng := HNG.out j hjn
     obtain ⟨q, hqd⟩ : ∃ q, q = rs.getD j 0 := ⟨_, rfl⟩
     obtain ⟨x, hxd⟩ : ∃ x, x = ns.getD j 0 := ⟨_, rfl⟩
     rw [← HD.out, ← hng, ← hqd, ← hxd] at hqq
     rw [← hqd] at hqv
     rw [← hxd] at I3
     have HXD := Hi hxd
     have HEQ := Hi hqq
     have JQ := Hi hqv
     clear ha hq hqv hqq hng hqd hxd
     go_wp2_with fail
     have HC := hj XG.out.hc XE.out.hc
     refine rg0 6 HC fun hHeld => ?_
     obtain ⟨wd, hwd⟩ : ∃ W, W = wp.drew := ⟨_, rfl⟩
     have HBd : Hid (Below wp.heap.size wp wd) := Hi (by rw [hwd]; exact bw (b0 _))
     rw [← hwd] at hHeld ⊢
     clear hwd
     refine tk 0 ?_
     refine tk 1 ?_
     refine tk 2 ?_
     refine tk 3 ?_
     refine tk 4 ?_
     refine cl 5 fun K hK => ?_
     go_simp
     go_at_call 25
     refine (RGcd_iv (z := ((Nat.gcd G x.natAbs : Nat) : Int)) (IG.out.below HBd.out) (I3.out.below HBd.out) (by rw [Int.natAbs_natCast]) (Nat.lt_of_le_of_lt (by rw [Int.natAbs_natCast, Int.natAbs_natCast]; exact Nat.gcd_le_left _ HG.out.1) (lt_le (lt_val IG.out.ws IG.out.val) IG.out.len))).mono ?_
     rintro e w6 ⟨n6, A6, c6, l6, rfl, i6, hb⟩
     have HB6 := Hi (bt HBd.out hb)
     have I6 := Hi i6
     clear hb i6 hHeld
     refine rk hK (HC.out _ HB6.out) fun hHeld => ?_
     clear hK K
     refine wpAnyH_done (by kernel_rfl) ?_ _
     simp only [HT]
     clear hHeld HC
     have xg := XG.out.below HB6.out
     obtain ⟨r0, r1⟩ := xg.cs
     have f0 := xg.free 0
     have f1 := xg.free 1
     go_wp2_with fail
     clear r0 r1 f0 f1
     obtain ⟨w7, hw⟩ : ∃ W, W = (w6.setCell ⟨pg, 0, none⟩ (.bool n6)).setCell ⟨pg, 1, none⟩ (.slice A6 l6.length c6) := ⟨_, rfl⟩
     rw [← hw]
     have hcl := HCL.out.below HB6.out
     have hgg : g < pg := by omega
     have XG7 : Hid (Box2 w7 pg (.bool n6) (.slice A6 l6.length c6)) := Hi (by rw [hw]; exact xg.stored _ _)
     have IG7 : Hid (IV w7 n6 A6 c6 l6 ((Nat.gcd G x.natAbs : Nat) : Int)) := Hi (by rw [hw]; exact I6.out.two xg _ _)
     have HCL7 : Hid (CL w7 g qs.length ns qs.length) := Hi (by rw [hw]; exact hcl.two xg (by omega) _ _)
     have XD7 : Hid (Box2 w7 pd (.bool n1) (.slice A1 l1.length c1)) := Hi (by rw [hw]; exact (XD.out.below HB6.out).far (by omega) _ _)
     have ID7 : Hid (IV w7 n1 A1 c1 l1 d) := Hi (by rw [hw]; exact (ID.out.below HB6.out).two xg _ _)
     have XE7 : Hid (El2 w7 g (j * 2) (.bool n3) (.slice B3 k3.length d3)) := Hi (by rw [hw]; exact (XE.out.below HB6.out).two (by omega) _ _)
     have I37 : Hid (IV w7 n3 B3 d3 k3 x) := Hi (by rw [hw]; exact (I3.out.below HB6.out).two xg _ _)
     have HB7 : Hid (Below w.heap.size w w7) := Hi (by rw [hw]; exact b2 (bt HBJ.out HB6.out) (by omega) _ _)
     clear hw hcl xg XG IG HCL XD ID XE I3 HBJ HB6 HBd I6
     go_cut [9, 10] (fun xx ee wx => Laid1 w7 6 q xx ee wx)
     case first =>
      as_aux_lemma =>
      have HC := hj XE7.out.hc XD7.out.hc
      refine rgh HC fun hHeld => ?_
      obtain ⟨wd, hwd⟩ : ∃ W, W = w7.drew := ⟨_, rfl⟩
      have HBd : Hid (Below w7.heap.size w7 wd) := Hi (by rw [hwd]; exact bw (b0 _))
      rw [← hwd] at hHeld ⊢
      clear hwd
      refine tk 0 ?_
      refine tk 1 ?_
      refine tk 2 ?_
      refine tk 3 ?_
      refine tk 4 ?_
      refine cl2 5 9 (fun K hK => ?_) (fun K hK => ?_)
      ·go_simp
       go_at_call 29
       refine (Make_q (i := 6) (I37.out.below HBd.out) (ID7.out.below HBd.out) HDP.out HEQ.out JQ.out.num.lt JQ.out.den.lt).mono ?_
       rintro e u1 ⟨av, rfl, hn, hb⟩
       have HBu := Hi (bt HBd.out hb)
       have HN1 := Hi hn
       clear hb hn hHeld
       refine rk hK (HC.out _ HBu.out) fun hHeld => ?_
       clear hK K
       refine tk 6 ?_
       refine tk 7 ?_
       refine tk 8 ?_
       refine cl 9 fun K hK => ?_
       go_simp
       obtain ⟨u2, hu⟩ : ∃ W, W = u1.alloc (.cells #[.bool false, .slice none 0 0, .bool false, .slice none 0 0] 35) := ⟨_, rfl⟩
       have xa : Box4 u2 u1.heap.size (.bool false) (.slice none 0 0) (.bool false) (.slice none 0 0) := by rw [hu]; exact Box4.new _ _ _ _ _
       have hb : Below u1.heap.size u1 u2 := by rw [hu]; exact ba (b0 _) _
       obtain ⟨pa, hp⟩ : ∃ p, p = u1.heap.size := ⟨_, rfl⟩
       have hL := Hi (show w7.heap.size ≤ pa by rw [hp]; exact (HBu.out).size)
       rw [← hu, ← hp]
       rw [← hp] at xa
       clear hu hp
       have HBu2 := Hi (bt HBu.out hb)
       have HN := Hi (HN1.out.below hb)
       clear hb hHeld
       refine rk hK (HC.out _ HBu2.out) fun hHeld => ?_
       clear hK K
       exact mfb9c1
      ·go_simp
       obtain ⟨u1, hu⟩ : ∃ W, W = wd.alloc (.cells #[.bool false, .slice none 0 0, .bool false, .slice none 0 0] 35) := ⟨_, rfl⟩
       have xa : Box4 u1 wd.heap.size (.bool false) (.slice none 0 0) (.bool false) (.slice none 0 0) := by rw [hu]; exact Box4.new _ _ _ _ _
       have hb : Below wd.heap.size wd u1 := by rw [hu]; exact ba (b0 _) _
       obtain ⟨pa, hp⟩ : ∃ p, p = wd.heap.size := ⟨_, rfl⟩
       have hL := Hi (show w7.heap.size ≤ pa by rw [hp]; exact (HBd.out).size)
       rw [← hu, ← hp]
       rw [← hp] at xa
       clear hu hp
       have HBu1 := Hi (bt HBd.out hb)
       clear hb hHeld
       refine rk hK (HC.out _ HBu1.out) fun hHeld => ?_
       clear hK K
       refine cl 5 fun K hK => ?_
       go_simp
       go_at_call 29
       refine (Make_q (i := 6) (I37.out.below HBu1.out) (ID7.out.below HBu1.out) HDP.out HEQ.out JQ.out.num.lt JQ.out.den.lt).mono ?_
       rintro e u2 ⟨av, rfl, hn, hb⟩
       replace xa := xa.below hb
       have HBu2 := Hi (bt HBu1.out hb)
       have HN := Hi hn
       clear hb hn hHeld
       refine rk hK (HC.out _ HBu2.out) fun hHeld => ?_
       clear hK K
       refine tk 6 ?_
       refine tk 7 ?_
       refine tk 8 ?_
       exact mfb9c1
     case rest =>
     obtain ⟨av, pa, ⟨rfl, hpa, xa, hn⟩, rfl, hb⟩ := hcut
     obtain ⟨w8, hwn⟩ : ∃ v, v = wc := ⟨_, rfl⟩
     rw [← hwn] at hb xa hn ⊢
     clear hwn wc hpa
     have XA := Hi xa
     have JA := Hi hn
     have XG8 := Hi (XG7.out.below hb)
     have IG8 := Hi (IG7.out.below hb)
     have HCL8 := Hi (HCL7.out.below hb)
     have XD8 := Hi (XD7.out.below hb)
     have ID8 := Hi (ID7.out.below hb)
     have HB8 := Hi (bt HB7.out hb)
     have XQ : Hid (El4 w8 b (off + j * 4) (.bool a.n) (.slice a.A a.l.length a.c) (.bool a.m) (.slice a.B a.k.length a.d)) := Hi (by
      have h1 := HQ.out.below HB8.out hbl
      exact ⟨Nat.lt_of_lt_of_le hbl HB8.out.size, h1.1, h1.2.1, h1.2.2.1, h1.2.2.2.1⟩)
     have JQ8 := Hi (JQ.out.below HB8.out)
     clear xa hn hb XG7 IG7 HCL7 XD7 ID7 HB7 XE7 I37
     go_wp2_with fail
     go_cut [81] (fun v wx => v = .bool false ∧ Below w8.heap.size w8 wx)
     case first =>
      as_aux_lemma =>
      have HC := hj XA.out.hc XQ.out.hc
      refine rgh HC fun hHeld => ?_
      obtain ⟨wd, hwd⟩ : ∃ W, W = w8.drew := ⟨_, rfl⟩
      have HBd : Hid (Below w8.heap.size w8 wd) := Hi (by rw [hwd]; exact bw (b0 _))
      rw [← hwd] at hHeld ⊢
      clear hwd
      refine tk 0 ?_
      refine tk 1 ?_
      refine tk 2 ?_
      refine tk 3 ?_
      refine tk 4 ?_
      refine tk 5 ?_
      refine tk 6 ?_
      refine tk 7 ?_
      refine cl 8 fun K hK => ?_
      go_simp
      go_at_call 32
      refine (QSame_q (JA.out.below HBd.out) (JQ8.out.below HBd.out) (by decide) (by decide)).mono ?_
      rintro e u1 ⟨rfl, hb⟩
      have HBu := Hi (bt HBd.out hb)
      clear hb hHeld
      refine rk hK (HC.out _ HBu.out) fun hHeld => ?_
      clear hK K
      refine tk 9 ?_
      refine tk 10 ?_
      refine wpAnyH_done (by kernel_rfl) ?_ _
      clear hHeld
      go_wp2_with fail
      go_meet
      exact ⟨rfl, HBu.out⟩
     case rest =>
     obtain ⟨rfl, hb⟩ := hcut
     obtain ⟨w9, hwn⟩ : ∃ v, v = wc := ⟨_, rfl⟩
     rw [← hwn] at hb ⊢
     clear hwn wc
     have XG9 := Hi (XG8.out.below hb)
     have IG9 := Hi (IG8.out.below hb)
     have HCL9 := Hi (HCL8.out.below hb)
     have XD9 := Hi (XD8.out.below hb)
     have ID9 := Hi (ID8.out.below hb)
     have HB9 := Hi (bt HB8.out hb)
     have HG9 : Hid (0 < Nat.gcd G x.natAbs ∧ Nat.gcd G x.natAbs ∣ d.natAbs ∧ ∀ i, i < j + 1 → Nat.gcd G x.natAbs ∣ (ns.getD i 0).natAbs) := Hi ⟨Nat.gcd_pos_of_pos_left _ HG.out.1, Nat.dvd_trans (Nat.gcd_dvd_left _ _) HG.out.2.1, fun i hi => by
      rcases Nat.lt_or_ge i j with h1 | h1
      ·exact Nat.dvd_trans (Nat.gcd_dvd_left _ _) (HG.out.2.2 i h1)
      ·obtain rfl : i = j := by omega
       rw [← HXD.out]; exact Nat.gcd_dvd_right _ _⟩
     clear hb XG8 IG8 HCL8 XD8 ID8 HB8 XA JA XQ JQ8 HG
     go_wp2_with fail
     go_roundw
     case rel =>
      have hwj : wrap64 ((j : Int) + 1) = ((j + 1 : Nat) : Int) := by have := H20.out; unfold wrap64; omega
      exact ⟨j + 1, _, n6, A6, c6, l6, by first | rfl | rw [hwj] | simp, by omega, HG9, XG9, IG9, HCL9, XD9, ID9, HB9⟩
     case measure =>
      have hwj : wrap64 ((j : Int) + 1) = ((j + 1 : Nat) : Int) := by have := H20.out; unfold wrap64; omega
      try rw [hwj]
      simp [intOf]
      omega
    ·have hji : ¬ (j : Int) < (qs.length : Int) := by omega
     obtain rfl : j = qs.length := by omega
     have hone : G = 1 := by
      have hd := HD.out
      refine cm_one (rs := rs) (by have := HG.out.2.1; rw [hd, Int.natAbs_natCast] at this; exact this) (fun i hi => ?_)
      have hi2 : i < qs.length := by have := HRL.out; omega
      have := HG.out.2.2 i hi2
      rw [HNG.out i hi2] at this
      rw [← hd]; exact this
     subst hone
     have IG1 : Hid (IV wp n2 B2 c2 k2 1) := Hi (by have := IG.out; simpa using this)
     go_wp2_with fail
     go_cut [2] (fun v wx => v = .bool true ∧ Below wp.heap.size wp wx)
     case first =>
      as_aux_lemma =>
      have HC := XG.out.hc
      refine rgh HC fun hHeld => ?_
      obtain ⟨wd, hwd⟩ : ∃ W, W = wp.drew := ⟨_, rfl⟩
      have HBd : Hid (Below wp.heap.size wp wd) := Hi (by rw [hwd]; exact bw (b0 _))
      rw [← hwd] at hHeld ⊢
      clear hwd
      refine cl 0 fun K hK => ?_
      go_simp
      go_at_call 26
      refine (sane2 _ (HTn.out.below (bt HBJ.out HBd.out))).mono ?_
      rintro e u1 ⟨rfl, hb⟩
      have HB1 := Hi (bt HBd.out hb)
      clear hb hHeld
      refine rk hK (HC.out _ HB1.out) fun hHeld => ?_
      clear hK K
      refine tk 1 ?_
      refine tk 2 ?_
      refine cl 3 fun K hK => ?_
      go_simp
      go_at_call 59
      refine (ROf_iv _ 1 (by decide) (by decide)).mono ?_
      rintro e u2 ⟨n7, A7, c7, l7, rfl, i7, hb⟩
      have HB2 := Hi (bt HB1.out hb)
      have I7 := Hi i7
      clear i7 hb hHeld
      refine rk hK (HC.out _ HB2.out) fun hHeld => ?_
      clear hK K
      refine cl 4 fun K hK => ?_
      go_simp
      go_at_call 17
      refine (Same_iv (IG1.out.below HB2.out) I7.out).mono ?_
      rintro e u3 ⟨rfl, hb⟩
      have HB3 := Hi (bt HB2.out hb)
      clear hb hHeld
      refine rk hK (HC.out _ HB3.out) fun hHeld => ?_
      clear hK K
      refine tk 5 ?_
      refine tk 6 ?_
      refine wpAnyH_done (by kernel_rfl) ?_ _
      clear hHeld
      go_wp2_with fail
      go_meet
      exact ⟨rfl, HB3.out⟩
     case rest =>
     obtain ⟨rfl, hb⟩ := hcut
     obtain ⟨w9, hwn⟩ : ∃ v, v = wc := ⟨_, rfl⟩
     rw [← hwn] at hb ⊢
     clear hwn wc
     have hfin := bt HBJ.out hb
     clear hb
     go_wp2_with fail
     go_ret
     exact ⟨rfl, hfin⟩
end Go.Proofs.YtgljdfblgpdaaaaGreatDoor
