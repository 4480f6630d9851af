/- NumRing: the walk. -/
import Derived.Test.YtaaipcjbmdbndaaDoorNumIv
import Derived.Deep.RegionHeld3
import Derived.Deep.DeepCutAuto
import Derived.Outline
namespace Go.Proofs.YtaaipcjbmdbndaaDoor
open Go.RowKit

theorem ring_cases {za zb zc d : Int} (hd : cmpI za zb = d) : ∃ v e f, Hid (cmpI zb za = v) ∧ Hid (cmpI zb zc = e) ∧ Hid (cmpI za zc = f) ∧ IntKind.i64.wrap (-v) = d ∧
    ((0 < d ∧ decide (d > 0) = true) ∨ (¬ 0 < d ∧ decide (d > 0) = false ∧ 0 < e ∧ decide (e > 0) = true) ∨ (¬ 0 < d ∧ decide (d > 0) = false ∧ ¬ 0 < e ∧ decide (e > 0) = false ∧ f ≤ 0 ∧ decide (f ≤ 0) = true)) := by
  refine ⟨_, _, _, Lib.hid rfl, Lib.hid rfl, Lib.hid rfl, ?_, ?_⟩
  · rw [cmpI_swap, hd]
    rcases cmpI_three za zb with h | h | h <;> (rw [hd] at h; subst h; decide)
  · have k1 := @cmpI_gt za zb
    have k2 := @cmpI_gt zb zc
    have k3 := @cmpI_le za zc
    rw [hd] at k1
    by_cases h1 : 0 < d
    · exact Or.inl ⟨h1, decide_eq_true h1⟩
    · by_cases h2 : 0 < cmpI zb zc
      · exact Or.inr (Or.inl ⟨h1, decide_eq_false h1, h2, decide_eq_true h2⟩)
      · have h3 : cmpI za zc ≤ 0 := k3.2 (by have := mt k1.2 h1; have := mt k2.2 h2; omega)
        exact Or.inr (Or.inr ⟨h1, decide_eq_false h1, h2, decide_eq_false h2, h3, decide_eq_true h3⟩)

set_option maxRecDepth 100000 in
set_option maxHeartbeats 40000000 in
theorem NumRing_look (w : World) (na nb nc : Bool) (A B C : Option Addr) (ca cb cc : Nat) (l k m : List Nat) (hl : WS w A l) (hk : WS w B k) (hm : WS w C m) (hl1 : l.length ≤ 60) (hk1 : k.length ≤ 60) (hm1 : m.length ≤ 60)
    (hca : l.length ≤ ca) (hcb : k.length ≤ cb) (hcc : m.length ≤ cc) (ha : isB na l = true) (hb : isB nb k = true) (hc : isB nc m = true) (hT : Tens w) :
    Calls Tryd.prog 4 #[.agg #[.bool na, .slice A l.length ca], .agg #[.bool nb, .slice B k.length cb], .agg #[.bool nc, .slice C m.length cc]] w fun e w' => e = .returned (.bool true) ∧ Below w.heap.size w w' := by
  have HTn := Lib.hid hT
  have HA := Lib.hid ha
  have HB := Lib.hid hb
  have HC := Lib.hid hc
  have hsh := fun W => short_wide 60 na nb nc A B C l.length k.length m.length ca cb cc W (by omega) true (by simp [hl1, hk1, hm1])
  have HSH := Lib.hid hsh
  clear hT ha hb hc hsh
  go_enter Tryd.func4, Tryd.ntmps4
  go_wp2_with fail
  obtain ⟨W1, hW1⟩ : ∃ W, W = ((w.alloc (bx na A l.length ca)).alloc (bx nb B k.length cb)).alloc (bx nc C m.length cc) := ⟨_, rfl⟩
  have Y0 : Box2 W1 w.heap.size (.bool na) (.slice A l.length ca) := by rw [hW1]; exact ((Box2.new w _ _).alloc _).alloc _
  have Y1 : Box2 W1 (w.heap.size + 1) (.bool nb) (.slice B k.length cb) := by
    rw [hW1]
    have h := (Box2.new (w.alloc (bx na A l.length ca)) (.bool nb) (.slice B k.length cb)).alloc (bx nc C m.length cc)
    rwa [World.size_alloc] at h
  have Y2 : Box2 W1 (w.heap.size + 1 + 1) (.bool nc) (.slice C m.length cc) := by
    rw [hW1]
    have h := Box2.new ((w.alloc (bx na A l.length ca)).alloc (bx nb B k.length cb)) (.bool nc) (.slice C m.length cc)
    rwa [World.size_alloc, World.size_alloc] at h
  have K1 : Below w.heap.size w W1 := by rw [hW1]; exact ba (ba (ba (b0 _) _) _) _
  change Calls _ _ _ (((w.alloc (bx na A l.length ca)).alloc (bx nb B k.length cb)).alloc (bx nc C m.length cc)) _
  rw [← hW1]
  clear hW1
  refine (HSH.out W1).mono ?_
  rintro e w2 ⟨rfl, hb2⟩
  have K2 : Below w.heap.size w w2 := bt K1 hb2
  have y0 := (Y0.below hb2).cell0
  have y1 := (Y0.below hb2).cell1
  go_wp2_with fail
  refine (RIs_any na A l.length ca l w2 rfl (by omega) (hl.below K2)).mono ?_
  rintro e w3 ⟨rfl, hb3⟩
  rw [HA.out]
  have K3 := bt K2 hb3
  clear y0 y1
  have y0 := ((Y1.below hb2).below hb3).cell0
  have y1 := ((Y1.below hb2).below hb3).cell1
  go_wp2_with fail
  refine (RIs_any nb B k.length cb k w3 rfl (by omega) (hk.below K3)).mono ?_
  rintro e w4 ⟨rfl, hb4⟩
  rw [HB.out]
  have K4 := bt K3 hb4
  clear y0 y1
  have y0 := (((Y2.below hb2).below hb3).below hb4).cell0
  have y1 := (((Y2.below hb2).below hb3).below hb4).cell1
  go_wp2_with fail
  refine (RIs_any nc C m.length cc m w4 rfl (by omega) (hm.below K4)).mono ?_
  rintro e w5 ⟨rfl, hb5⟩
  rw [HC.out]
  have K5 := bt K4 hb5
  have hb15 := bt (bt (bt hb2 hb3) hb4) hb5
  have Z0 := Y0.below hb15
  have Z1 := Y1.below hb15
  have Z2 := Y2.below hb15
  clear y0 y1 Y0 Y1 Y2 K1 K2 K3 K4 hb2 hb3 hb4 hb5 hb15 HSH
  obtain ⟨za, hza⟩ : ∃ z, z = zI na l := ⟨_, rfl⟩
  obtain ⟨zb, hzb⟩ : ∃ z, z = zI nb k := ⟨_, rfl⟩
  obtain ⟨zc, hzc⟩ : ∃ z, z = zI nc m := ⟨_, rfl⟩
  have JA : IV w5 na A ca l za := ⟨hca, hl.below K5, HA.out, hza.symm, by omega⟩
  have JB : IV w5 nb B cb k zb := ⟨hcb, hk.below K5, HB.out, hzb.symm, by omega⟩
  have JC : IV w5 nc C cc m zc := ⟨hcc, hm.below K5, HC.out, hzc.symm, by omega⟩
  have TA : Lt 60 za := lt_le (lt_val hl hza.symm) hl1
  have TB : Lt 60 zb := lt_le (lt_val hk hzb.symm) hk1
  have TC : Lt 60 zc := lt_le (lt_val hm hzc.symm) hm1
  have TT := HTn.out.below K5
  clear hl1 hk1 hm1 hca hcb hcc HA HB HC hl hk hm HTn hza hzb hzc
  have HJA := Lib.hid JA
  have HJB := Lib.hid JB
  have HJC := Lib.hid JC
  have HTA := Lib.hid TA
  have HTB := Lib.hid TB
  have HTC := Lib.hid TC
  have HTT := Lib.hid TT
  have HZ0 := Lib.hid Z0
  have HZ1 := Lib.hid Z1
  have HZ2 := Lib.hid Z2
  have HK5 := Lib.hid K5
  clear JA JB JC TA TB TC TT Z0 Z1 Z2 K5
  have tokp3 : True := trivial
  go_upto_region 3 with fail
  go_cut [7, 8] (fun s t wx => TwoAt w5 (za + zb) (zb + zc) s t wx)
  case first =>
    as_aux_lemma =>
    have S5 : ∀ W, Below w5.heap.size w5 W → W.cell? ⟨w.heap.size, 0, none⟩ = some (.bool na) ∧ W.cell? ⟨w.heap.size, 1, none⟩ = some (.slice A l.length ca) ∧ W.cell? ⟨w.heap.size + 1, 0, none⟩ = some (.bool nb) ∧ W.cell? ⟨w.heap.size + 1, 1, none⟩ = some (.slice B k.length cb) ∧ W.cell? ⟨w.heap.size + 1 + 1, 0, none⟩ = some (.bool nc) ∧ W.cell? ⟨w.heap.size + 1 + 1, 1, none⟩ = some (.slice C m.length cc) := fun W hb =>
      ⟨cell_below (HZ0.out.cell0) hb, cell_below (HZ0.out.cell1) hb, cell_below (HZ1.out.cell0) hb, cell_below (HZ1.out.cell1) hb, cell_below (HZ2.out.cell0) hb, cell_below (HZ2.out.cell1) hb⟩
    have HS5 := Lib.hid S5
    clear S5
    go_region_held3 (fun W => W.cell? ⟨w.heap.size, 0, none⟩ = some (.bool na) ∧ W.cell? ⟨w.heap.size, 1, none⟩ = some (.slice A l.length ca) ∧ W.cell? ⟨w.heap.size + 1, 0, none⟩ = some (.bool nb) ∧ W.cell? ⟨w.heap.size + 1, 1, none⟩ = some (.slice B k.length cb) ∧ W.cell? ⟨w.heap.size + 1 + 1, 0, none⟩ = some (.bool nc) ∧ W.cell? ⟨w.heap.size + 1 + 1, 1, none⟩ = some (.slice C m.length cc))
      ((refine HS5.out _ ?_; (repeat (first | assumption | exact b0 _ | apply ba | apply bd | apply bw | (refine bs ?_ (by first | exact Nat.le_refl _ | (dsimp only; omega) | omega) _)))))
      (first
      | (go_at_call 17; have _t := tokp3; refine (Add_ow (HJA.out.below (by repeat (first | assumption | exact b0 _ | apply ba | apply bd | apply bw))) (HJB.out.below (by repeat (first | assumption | exact b0 _ | apply ba | apply bd | apply bw))) rfl).mono ?_; clear tokp3 _t; rintro e w6 ⟨n6, A6, c6, l6, rfl, hc6, ho6, hB6, hz6, hb6⟩; obtain ⟨hcc6, hff6⟩ := bcell hb6; have hb56 : Below w5.heap.size w5 w6 := bt (by repeat (first | assumption | exact b0 _ | apply ba | apply bd | apply bw)) hb6; have sz6 := hb56.size; have sy6 := hb6.size; (try simp at sy6); (try have sw6 : w5.heap.size < w6.heap.size := by omega); (try have sv6 : w5.heap.size + 1 < w6.heap.size := by omega); have g6 := fun (p : Nat) h => ho6.off_ (g := p) h; have G6 := fun (p : Nat) (h : w6.heap.size ≤ p) => ho6.ws.off h; have HG6 := Lib.hid g6; have HGG6 := Lib.hid G6; clear g6 G6)
      | (go_at_call 17; refine (Add_ow (HJB.out.below (by repeat (first | assumption | exact b0 _ | apply ba | apply bd | apply bw))) (HJC.out.below (by repeat (first | assumption | exact b0 _ | apply ba | apply bd | apply bw))) rfl).mono ?_; rintro e w7 ⟨n7, A7, c7, l7, rfl, hc7, ho7, hB7, hz7, hb7⟩; obtain ⟨hcc7, hff7⟩ := bcell hb7; have hb57 : Below w5.heap.size w5 w7 := bt (by repeat (first | assumption | exact b0 _ | apply ba | apply bd | apply bw)) hb7; have sz7 := hb57.size; have sy7 := hb7.size; (try simp at sy7); (try have sw7 : w5.heap.size < w7.heap.size := by omega); (try have sv7 : w5.heap.size + 1 < w7.heap.size := by omega); (try have su7 : w6.heap.size < w7.heap.size := by omega); (try have st7 : w6.heap.size + 1 < w7.heap.size := by omega); have g7 := fun (p : Nat) h => ho7.off_ (g := p) h; have G7 := fun (p : Nat) (h : w7.heap.size ≤ p) => ho7.ws.off h; have HG7 := Lib.hid g7; have HGG7 := Lib.hid G7; clear g7 G7; have hw6 : WS w7 A6 l6 := (ho6.ws.below (by repeat (first | exact b0 _ | apply ba))).below hb7))
    all_goals (go_wp2_with fail; go_meet)
    all_goals
      have hw7 : WS w7 A7 l7 := ho7.ws
      have g6 := HG6.out
      have G6 := HGG6.out
      have g7 := HG7.out
      have G7 := HGG7.out
      refine ⟨_, _, n6, A6, c6, l6, n7, A7, c7, l7, rfl, rfl, ?_, ?_, ?_⟩
      · repeat (first
          | (with_reducible refine IntAt.new' hc6 hB6 hz6 ?_ ?_)
          | (with_reducible refine IntAt.store' hc6 hB6 hz6 ?_ ?_ ?_)
          | (with_reducible refine IntAt.alloc ?_ _)
          | (with_reducible refine IntAt.far ?_ ?_ ?_ _ _))
        all_goals (repeat (first
          | with_reducible exact hw6
          | (with_reducible refine WS.below ?_ (ba (b0 _) _))
          | (with_reducible refine WS.two ?_ ?_ _ _)
          | (focus ((with_reducible refine Box2.new' ?_); (simp; done)))
          | (with_reducible refine Box2.alloc ?_ _)
          | (with_reducible refine Box2.far ?_ ?_ _ _)
          | (with_reducible refine Box2.below ?_ hb7)
          | (with_reducible refine Box2.below ?_ hb6)
          | exact G6 _ (by omega)
          | exact g6 _ (by first | (simp; done) | (simp; omega) | omega)
          | omega
          | (focus (simp; done))
          | (with_reducible refine Box2.drew' ?_)))
      · repeat (first
          | (with_reducible refine IntAt.new' hc7 hB7 hz7 ?_ ?_)
          | (with_reducible refine IntAt.store' hc7 hB7 hz7 ?_ ?_ ?_)
          | (with_reducible refine IntAt.alloc ?_ _)
          | (with_reducible refine IntAt.far ?_ ?_ ?_ _ _))
        all_goals (repeat (first
          | with_reducible exact hw7
          | (with_reducible refine WS.below ?_ (ba (b0 _) _))
          | (with_reducible refine WS.two ?_ ?_ _ _)
          | (focus ((with_reducible refine Box2.new' ?_); (simp; done)))
          | (with_reducible refine Box2.alloc ?_ _)
          | (with_reducible refine Box2.far ?_ ?_ _ _)
          | (with_reducible refine Box2.below ?_ hb7)
          | (with_reducible refine Box2.below ?_ hb6)
          | exact G7 _ (by omega)
          | exact g7 _ (by first | (simp; done) | (simp; omega) | omega)
          | omega
          | (focus (simp; done))
          | (with_reducible refine Box2.drew' ?_)))
      · repeat (first | exact hb57 | (with_reducible refine ba ?_ _) | (with_reducible refine bs ?_ ?_ _))
        all_goals (first | exact Nat.le_refl _ | (dsimp only; omega) | omega)
  case rest =>
  obtain ⟨pd, qd, n1, A1, c1, l1, n2, A2, c2, l2, rfl, rfl, I1, I2, hb8⟩ := hcut
  obtain ⟨w8, hw8⟩ : ∃ v, v = wc := ⟨_, rfl⟩
  rw [← hw8] at I1 I2 hb8 ⊢
  clear hw8 wc
  have JA := HJA.out.below hb8
  have JB := HJB.out.below hb8
  have JC := HJC.out.below hb8
  have Z0 := HZ0.out.below hb8
  have Z1 := HZ1.out.below hb8
  have Z2 := HZ2.out.below hb8
  have TT := HTT.out.below hb8
  have K8 := bt HK5.out hb8
  clear HJA HJB HJC HZ0 HZ1 HZ2 HTT HK5
  have HJA := Lib.hid JA
  have HJB := Lib.hid JB
  have HJC := Lib.hid JC
  have HZ0 := Lib.hid Z0
  have HZ1 := Lib.hid Z1
  have HZ2 := Lib.hid Z2
  have HTT := Lib.hid TT
  have HK8 := Lib.hid K8
  have HI1 := Lib.hid I1
  have HI2 := Lib.hid I2
  clear JA JB JC Z0 Z1 Z2 TT K8 I1 I2 hb8
  have tokp4 : True := trivial
  go_upto_region 4 with fail
  go_cut [9, 10] (fun s t wx => TwoAt w8 (za * zb) (zb * zc) s t wx)
  case first =>
    as_aux_lemma =>
    have S5 : ∀ W, Below w8.heap.size w8 W → W.cell? ⟨w.heap.size, 0, none⟩ = some (.bool na) ∧ W.cell? ⟨w.heap.size, 1, none⟩ = some (.slice A l.length ca) ∧ W.cell? ⟨w.heap.size + 1, 0, none⟩ = some (.bool nb) ∧ W.cell? ⟨w.heap.size + 1, 1, none⟩ = some (.slice B k.length cb) ∧ W.cell? ⟨w.heap.size + 1 + 1, 0, none⟩ = some (.bool nc) ∧ W.cell? ⟨w.heap.size + 1 + 1, 1, none⟩ = some (.slice C m.length cc) := fun W hb =>
      ⟨cell_below (HZ0.out.cell0) hb, cell_below (HZ0.out.cell1) hb, cell_below (HZ1.out.cell0) hb, cell_below (HZ1.out.cell1) hb, cell_below (HZ2.out.cell0) hb, cell_below (HZ2.out.cell1) hb⟩
    have HS5 := Lib.hid S5
    clear S5
    go_region_held3 (fun W => W.cell? ⟨w.heap.size, 0, none⟩ = some (.bool na) ∧ W.cell? ⟨w.heap.size, 1, none⟩ = some (.slice A l.length ca) ∧ W.cell? ⟨w.heap.size + 1, 0, none⟩ = some (.bool nb) ∧ W.cell? ⟨w.heap.size + 1, 1, none⟩ = some (.slice B k.length cb) ∧ W.cell? ⟨w.heap.size + 1 + 1, 0, none⟩ = some (.bool nc) ∧ W.cell? ⟨w.heap.size + 1 + 1, 1, none⟩ = some (.slice C m.length cc))
      ((refine HS5.out _ ?_; (repeat (first | assumption | exact b0 _ | apply ba | apply bd | apply bw | (refine bs ?_ (by first | exact Nat.le_refl _ | (dsimp only; omega) | omega) _)))))
      (first
      | (go_at_call 18; have _t := tokp4; refine (Mul_ow (HJA.out.below (by repeat (first | assumption | exact b0 _ | apply ba | apply bd | apply bw))) (HJB.out.below (by repeat (first | assumption | exact b0 _ | apply ba | apply bd | apply bw))) rfl).mono ?_; clear tokp4 _t; rintro e w6 ⟨n6, A6, c6, l6, rfl, hc6, ho6, hB6, hz6, hb6⟩; obtain ⟨hcc6, hff6⟩ := bcell hb6; have hb56 : Below w8.heap.size w8 w6 := bt (by repeat (first | assumption | exact b0 _ | apply ba | apply bd | apply bw)) hb6; have sz6 := hb56.size; have sy6 := hb6.size; (try simp at sy6); (try have sw6 : w8.heap.size < w6.heap.size := by omega); (try have sv6 : w8.heap.size + 1 < w6.heap.size := by omega); have g6 := fun (p : Nat) h => ho6.off_ (g := p) h; have G6 := fun (p : Nat) (h : w6.heap.size ≤ p) => ho6.ws.off h; have HG6 := Lib.hid g6; have HGG6 := Lib.hid G6; clear g6 G6)
      | (go_at_call 18; refine (Mul_ow (HJB.out.below (by repeat (first | assumption | exact b0 _ | apply ba | apply bd | apply bw))) (HJC.out.below (by repeat (first | assumption | exact b0 _ | apply ba | apply bd | apply bw))) rfl).mono ?_; rintro e w7 ⟨n7, A7, c7, l7, rfl, hc7, ho7, hB7, hz7, hb7⟩; obtain ⟨hcc7, hff7⟩ := bcell hb7; have hb57 : Below w8.heap.size w8 w7 := bt (by repeat (first | assumption | exact b0 _ | apply ba | apply bd | apply bw)) hb7; have sz7 := hb57.size; have sy7 := hb7.size; (try simp at sy7); (try have sw7 : w8.heap.size < w7.heap.size := by omega); (try have sv7 : w8.heap.size + 1 < w7.heap.size := by omega); (try have su7 : w6.heap.size < w7.heap.size := by omega); (try have st7 : w6.heap.size + 1 < w7.heap.size := by omega); have g7 := fun (p : Nat) h => ho7.off_ (g := p) h; have G7 := fun (p : Nat) (h : w7.heap.size ≤ p) => ho7.ws.off h; have HG7 := Lib.hid g7; have HGG7 := Lib.hid G7; clear g7 G7; have hw6 : WS w7 A6 l6 := (ho6.ws.below (by repeat (first | exact b0 _ | apply ba))).below hb7))
    all_goals (go_wp2_with fail; go_meet)
    all_goals
      have hw7 : WS w7 A7 l7 := ho7.ws
      have g6 := HG6.out
      have G6 := HGG6.out
      have g7 := HG7.out
      have G7 := HGG7.out
      refine ⟨_, _, n6, A6, c6, l6, n7, A7, c7, l7, rfl, rfl, ?_, ?_, ?_⟩
      · repeat (first
          | (with_reducible refine IntAt.new' hc6 hB6 hz6 ?_ ?_)
          | (with_reducible refine IntAt.store' hc6 hB6 hz6 ?_ ?_ ?_)
          | (with_reducible refine IntAt.alloc ?_ _)
          | (with_reducible refine IntAt.far ?_ ?_ ?_ _ _))
        all_goals (repeat (first
          | with_reducible exact hw6
          | (with_reducible refine WS.below ?_ (ba (b0 _) _))
          | (with_reducible refine WS.two ?_ ?_ _ _)
          | (focus ((with_reducible refine Box2.new' ?_); (simp; done)))
          | (with_reducible refine Box2.alloc ?_ _)
          | (with_reducible refine Box2.far ?_ ?_ _ _)
          | (with_reducible refine Box2.below ?_ hb7)
          | (with_reducible refine Box2.below ?_ hb6)
          | exact G6 _ (by omega)
          | exact g6 _ (by first | (simp; done) | (simp; omega) | omega)
          | omega
          | (focus (simp; done))
          | (with_reducible refine Box2.drew' ?_)))
      · repeat (first
          | (with_reducible refine IntAt.new' hc7 hB7 hz7 ?_ ?_)
          | (with_reducible refine IntAt.store' hc7 hB7 hz7 ?_ ?_ ?_)
          | (with_reducible refine IntAt.alloc ?_ _)
          | (with_reducible refine IntAt.far ?_ ?_ ?_ _ _))
        all_goals (repeat (first
          | with_reducible exact hw7
          | (with_reducible refine WS.below ?_ (ba (b0 _) _))
          | (with_reducible refine WS.two ?_ ?_ _ _)
          | (focus ((with_reducible refine Box2.new' ?_); (simp; done)))
          | (with_reducible refine Box2.alloc ?_ _)
          | (with_reducible refine Box2.far ?_ ?_ _ _)
          | (with_reducible refine Box2.below ?_ hb7)
          | (with_reducible refine Box2.below ?_ hb6)
          | exact G7 _ (by omega)
          | exact g7 _ (by first | (simp; done) | (simp; omega) | omega)
          | omega
          | (focus (simp; done))
          | (with_reducible refine Box2.drew' ?_)))
      · repeat (first | exact hb57 | (with_reducible refine ba ?_ _) | (with_reducible refine bs ?_ ?_ _))
        all_goals (first | exact Nat.le_refl _ | (dsimp only; omega) | omega)
  case rest =>
  obtain ⟨pp, qq, n3, A3, c3, l3, n4, A4, c4, l4, rfl, rfl, I3, I4, hb9⟩ := hcut
  obtain ⟨w9, hw9⟩ : ∃ v, v = wc := ⟨_, rfl⟩
  rw [← hw9] at I3 I4 hb9 ⊢
  clear hw9 wc
  have JA := HJA.out.below hb9
  have JB := HJB.out.below hb9
  have JC := HJC.out.below hb9
  have IA := IntAt.box (HZ0.out.below hb9) JA
  have IB := IntAt.box (HZ1.out.below hb9) JB
  have IC := IntAt.box (HZ2.out.below hb9) JC
  have I1 := HI1.out.below hb9
  have I2 := HI2.out.below hb9
  have TA := HTA.out
  have TB := HTB.out
  have TC := HTC.out
  have V1 := Lib.hid (I1.iv (lt_le (lt_add TA TB) (by decide)))
  have V2 := Lib.hid (I2.iv (lt_le (lt_add TB TC) (by decide)))
  have V3 := Lib.hid (I3.iv (lt_le (lt_mul TA TB) (by decide)))
  have V4 := Lib.hid (I4.iv (lt_le (lt_mul TB TC) (by decide)))
  have TT := HTT.out.below hb9
  have K9 := bt HK8.out hb9
  clear HJA HJB HJC HZ0 HZ1 HZ2 HTT HK8 HI1 HI2
  have HJA := Lib.hid JA
  have HJB := Lib.hid JB
  have HJC := Lib.hid JC
  have HTT := Lib.hid TT
  have HK9 := Lib.hid K9
  have HIA := Lib.hid IA
  have HIB := Lib.hid IB
  have HIC := Lib.hid IC
  have HI1 := Lib.hid I1
  have HI2 := Lib.hid I2
  have HI3 := Lib.hid I3
  have HI4 := Lib.hid I4
  clear JA JB JC TT K9 IA IB IC I1 I2 I3 I4 hb9 TA TB TC
  go_upto_region 5 with fail
  go_cut [11] (fun s wx => s = .bool true ∧ Below w9.heap.size w9 wx)
  case first =>
    as_aux_lemma =>
    have S5 : ∀ W, Below w9.heap.size w9 W → W.cell? ⟨w.heap.size, 0, none⟩ = some (.bool na) ∧ W.cell? ⟨w.heap.size, 1, none⟩ = some (.slice A l.length ca) ∧ W.cell? ⟨w.heap.size + 1, 0, none⟩ = some (.bool nb) ∧ W.cell? ⟨w.heap.size + 1, 1, none⟩ = some (.slice B k.length cb) ∧ W.cell? ⟨w.heap.size + 1 + 1, 0, none⟩ = some (.bool nc) ∧ W.cell? ⟨w.heap.size + 1 + 1, 1, none⟩ = some (.slice C m.length cc) ∧ W.cell? ⟨pd, 0, none⟩ = some (.bool n1) ∧ W.cell? ⟨pd, 1, none⟩ = some (.slice A1 l1.length c1) ∧ W.cell? ⟨qd, 0, none⟩ = some (.bool n2) ∧ W.cell? ⟨qd, 1, none⟩ = some (.slice A2 l2.length c2) := fun W hb =>
      ⟨cell_below HIA.out.c0 hb, cell_below HIA.out.c1 hb, cell_below HIB.out.c0 hb, cell_below HIB.out.c1 hb, cell_below HIC.out.c0 hb, cell_below HIC.out.c1 hb, cell_below HI1.out.c0 hb, cell_below HI1.out.c1 hb, cell_below HI2.out.c0 hb, cell_below HI2.out.c1 hb⟩
    have HS5 := Lib.hid S5
    clear S5
    have tk20 : True := trivial
    have tk21 : True := trivial
    have tk22 : True := trivial
    have tk23 : True := trivial
    have tk24 : True := trivial
    have tk27 : True := trivial
    go_region_held3 (fun W => W.cell? ⟨w.heap.size, 0, none⟩ = some (.bool na) ∧ W.cell? ⟨w.heap.size, 1, none⟩ = some (.slice A l.length ca) ∧ W.cell? ⟨w.heap.size + 1, 0, none⟩ = some (.bool nb) ∧ W.cell? ⟨w.heap.size + 1, 1, none⟩ = some (.slice B k.length cb) ∧ W.cell? ⟨w.heap.size + 1 + 1, 0, none⟩ = some (.bool nc) ∧ W.cell? ⟨w.heap.size + 1 + 1, 1, none⟩ = some (.slice C m.length cc) ∧ W.cell? ⟨pd, 0, none⟩ = some (.bool n1) ∧ W.cell? ⟨pd, 1, none⟩ = some (.slice A1 l1.length c1) ∧ W.cell? ⟨qd, 0, none⟩ = some (.bool n2) ∧ W.cell? ⟨qd, 1, none⟩ = some (.slice A2 l2.length c2))
      (first | (refine HS5.out _ ?_; (first | assumption | exact bd (b0 _) _ | exact b0 _)))
      (first
      | (go_at_call 17; have _t := tk20; refine (Add_iv (HJB.out.below (bd (b0 _) _)) (HJA.out.below (bd (b0 _) _)) (z := za + zb) (by omega) (lt_le (lt_add HTA.out HTB.out) (by decide))).mono ?_; clear tk20 _t; rintro e w20 ⟨n20, A20, c20, l20, rfl, hv20, hb20⟩; have R20 := Lib.hid hv20; clear hv20; have hK20 := bdn hb20)
      | (go_at_call 13; have _t := tk21; refine (Same_iv (V1.out.below hK20) R20.out).mono ?_; clear tk21 _t; rintro e w21 ⟨rfl, hb21⟩; have hK21 := bt hK20 hb21)
      | (go_at_call 17; have _t := tk22; refine (Add_iv (V1.out.below hK21) (HJC.out.below hK21) (z := za + zb + zc) (by rfl) (lt_le (lt_add (lt_add HTA.out HTB.out) HTC.out) (by decide))).mono ?_; clear tk22 _t; rintro e w22 ⟨n22, A22, c22, l22, rfl, hv22, hb22⟩; have R22 := Lib.hid hv22; clear hv22; have hK22 := bt hK21 hb22)
      | (go_at_call 17; have _t := tk23; refine (Add_iv (HJA.out.below hK22) (V2.out.below hK22) (z := za + zb + zc) (by omega) (lt_le (lt_add (lt_add HTA.out HTB.out) HTC.out) (by decide))).mono ?_; clear tk23 _t; rintro e w23 ⟨n23, A23, c23, l23, rfl, hv23, hb23⟩; have R23 := Lib.hid hv23; clear hv23; have hK23 := bt hK22 hb23)
      | (go_at_call 13; have _t := tk24; refine (Same_iv (IV.below R22.out hb23) R23.out).mono ?_; clear tk24 _t; rintro e w24 ⟨rfl, hb24⟩; have hK24 := bt hK23 hb24)
      | (go_at_call 19; refine (Of_iv _ 0 (by decide) (by decide)).mono ?_; rintro e w25 ⟨n25, A25, c25, l25, rfl, hv25, hb25⟩; have R25 := Lib.hid hv25; clear hv25; have hK25 := bt hK24 hb25)
      | (go_at_call 17; refine (Add_iv (HJA.out.below hK25) R25.out (z := za) (by omega) (lt_le HTA.out (by decide))).mono ?_; rintro e w26 ⟨n26, A26, c26, l26, rfl, hv26, hb26⟩; have R26 := Lib.hid hv26; clear hv26; have hK26 := bt hK25 hb26)
      | (go_at_call 13; have _t := tk27; refine (Same_iv R26.out (HJA.out.below hK26)).mono ?_; clear tk27 _t; rintro e w27 ⟨rfl, hb27⟩; have hK27 := bt hK26 hb27)
      | (go_at_call 20; refine (Sub_iv (V1.out.below hK27) (HJB.out.below hK27) (z := za) (by omega) (lt_le HTA.out (by decide))).mono ?_; rintro e w28 ⟨n28, A28, c28, l28, rfl, hv28, hb28⟩; have R28 := Lib.hid hv28; clear hv28; have hK28 := bt hK27 hb28)
      | (go_at_call 13; refine (Same_iv R28.out (HJA.out.below hK28)).mono ?_; rintro e w29 ⟨rfl, hb29⟩; have hK29 := bt hK28 hb29))
    go_wp2_with fail
    go_meet
    exact ⟨rfl, hK29⟩
  case rest =>
  obtain ⟨rfl, hb10⟩ := hcut
  obtain ⟨w10, hw10⟩ : ∃ v, v = wc := ⟨_, rfl⟩
  rw [← hw10] at hb10 ⊢
  clear hw10 wc
  have xHJA := Lib.hid (HJA.out.below hb10)
  have xHJB := Lib.hid (HJB.out.below hb10)
  have xHJC := Lib.hid (HJC.out.below hb10)
  have xV1 := Lib.hid (V1.out.below hb10)
  have xV2 := Lib.hid (V2.out.below hb10)
  have xV3 := Lib.hid (V3.out.below hb10)
  have xV4 := Lib.hid (V4.out.below hb10)
  have xHIA := Lib.hid (HIA.out.below hb10)
  have xHIB := Lib.hid (HIB.out.below hb10)
  have xHIC := Lib.hid (HIC.out.below hb10)
  have xHI1 := Lib.hid (HI1.out.below hb10)
  have xHI2 := Lib.hid (HI2.out.below hb10)
  have xHI3 := Lib.hid (HI3.out.below hb10)
  have xHI4 := Lib.hid (HI4.out.below hb10)
  have xHTT := Lib.hid (HTT.out.below hb10)
  have xHK9 := Lib.hid (bt HK9.out hb10)
  clear HJA HJB HJC V1 V2 V3 V4 HIA HIB HIC HI1 HI2 HI3 HI4 HTT HK9 hb10
  have HJA := xHJA
  clear xHJA
  have HJB := xHJB
  clear xHJB
  have HJC := xHJC
  clear xHJC
  have V1 := xV1
  clear xV1
  have V2 := xV2
  clear xV2
  have V3 := xV3
  clear xV3
  have V4 := xV4
  clear xV4
  have HIA := xHIA
  clear xHIA
  have HIB := xHIB
  clear xHIB
  have HIC := xHIC
  clear xHIC
  have HI1 := xHI1
  clear xHI1
  have HI2 := xHI2
  clear xHI2
  have HI3 := xHI3
  clear xHI3
  have HI4 := xHI4
  clear xHI4
  have HTT := xHTT
  clear xHTT
  have HK9 := xHK9
  clear xHK9
  go_upto_region 6 with fail
  go_cut [12] (fun s wx => s = .bool true ∧ Below w10.heap.size w10 wx)
  case first =>
    as_aux_lemma =>
    have S5 : ∀ W, Below w10.heap.size w10 W → W.cell? ⟨w.heap.size, 0, none⟩ = some (.bool na) ∧ W.cell? ⟨w.heap.size, 1, none⟩ = some (.slice A l.length ca) ∧ W.cell? ⟨w.heap.size + 1, 0, none⟩ = some (.bool nb) ∧ W.cell? ⟨w.heap.size + 1, 1, none⟩ = some (.slice B k.length cb) ∧ W.cell? ⟨w.heap.size + 1 + 1, 0, none⟩ = some (.bool nc) ∧ W.cell? ⟨w.heap.size + 1 + 1, 1, none⟩ = some (.slice C m.length cc) ∧ W.cell? ⟨pp, 0, none⟩ = some (.bool n3) ∧ W.cell? ⟨pp, 1, none⟩ = some (.slice A3 l3.length c3) ∧ W.cell? ⟨qq, 0, none⟩ = some (.bool n4) ∧ W.cell? ⟨qq, 1, none⟩ = some (.slice A4 l4.length c4) := fun W hb =>
      ⟨cell_below HIA.out.c0 hb, cell_below HIA.out.c1 hb, cell_below HIB.out.c0 hb, cell_below HIB.out.c1 hb, cell_below HIC.out.c0 hb, cell_below HIC.out.c1 hb, cell_below HI3.out.c0 hb, cell_below HI3.out.c1 hb, cell_below HI4.out.c0 hb, cell_below HI4.out.c1 hb⟩
    have HS5 := Lib.hid S5
    clear S5
    have tk20 : True := trivial
    have tk21 : True := trivial
    have tk22 : True := trivial
    have tk23 : True := trivial
    have tk24 : True := trivial
    go_region_held3 (fun W => W.cell? ⟨w.heap.size, 0, none⟩ = some (.bool na) ∧ W.cell? ⟨w.heap.size, 1, none⟩ = some (.slice A l.length ca) ∧ W.cell? ⟨w.heap.size + 1, 0, none⟩ = some (.bool nb) ∧ W.cell? ⟨w.heap.size + 1, 1, none⟩ = some (.slice B k.length cb) ∧ W.cell? ⟨w.heap.size + 1 + 1, 0, none⟩ = some (.bool nc) ∧ W.cell? ⟨w.heap.size + 1 + 1, 1, none⟩ = some (.slice C m.length cc) ∧ W.cell? ⟨pp, 0, none⟩ = some (.bool n3) ∧ W.cell? ⟨pp, 1, none⟩ = some (.slice A3 l3.length c3) ∧ W.cell? ⟨qq, 0, none⟩ = some (.bool n4) ∧ W.cell? ⟨qq, 1, none⟩ = some (.slice A4 l4.length c4))
      (first | (refine HS5.out _ ?_; (first | assumption | exact bd (b0 _) _ | exact b0 _)))
      (first
      | (go_at_call 18; have _t := tk20; refine (Mul_iv (HJB.out.below (bd (b0 _) _)) (HJA.out.below (bd (b0 _) _)) (z := za * zb) (by exact Int.mul_comm _ _) (lt_le (lt_mul HTA.out HTB.out) (by decide))).mono ?_; clear tk20 _t; rintro e w20 ⟨n20, A20, c20, l20, rfl, hv20, hb20⟩; have R20 := Lib.hid hv20; clear hv20; have hK20 := bdn hb20)
      | (go_at_call 13; have _t := tk21; refine (Same_iv (V3.out.below hK20) R20.out).mono ?_; clear tk21 _t; rintro e w21 ⟨rfl, hb21⟩; have hK21 := bt hK20 hb21)
      | (go_at_call 18; have _t := tk22; refine (Mul_iv (V3.out.below hK21) (HJC.out.below hK21) (z := za * zb * zc) (by rfl) (lt_le (lt_mul (lt_mul HTA.out HTB.out) HTC.out) (by decide))).mono ?_; clear tk22 _t; rintro e w22 ⟨n22, A22, c22, l22, rfl, hv22, hb22⟩; have R22 := Lib.hid hv22; clear hv22; have hK22 := bt hK21 hb22)
      | (go_at_call 18; have _t := tk23; refine (Mul_iv (HJA.out.below hK22) (V4.out.below hK22) (z := za * zb * zc) (by exact (Int.mul_assoc _ _ _).symm) (lt_le (lt_mul (lt_mul HTA.out HTB.out) HTC.out) (by decide))).mono ?_; clear tk23 _t; rintro e w23 ⟨n23, A23, c23, l23, rfl, hv23, hb23⟩; have R23 := Lib.hid hv23; clear hv23; have hK23 := bt hK22 hb23)
      | (go_at_call 13; have _t := tk24; refine (Same_iv (IV.below R22.out hb23) R23.out).mono ?_; clear tk24 _t; rintro e w24 ⟨rfl, hb24⟩; have hK24 := bt hK23 hb24)
      | (go_at_call 19; refine (Of_iv _ 1 (by decide) (by decide)).mono ?_; rintro e w25 ⟨n25, A25, c25, l25, rfl, hv25, hb25⟩; have R25 := Lib.hid hv25; clear hv25; have hK25 := bt hK24 hb25)
      | (go_at_call 18; refine (Mul_iv (HJA.out.below hK25) R25.out (z := za) (by exact Int.mul_one _) (lt_le HTA.out (by decide))).mono ?_; rintro e w26 ⟨n26, A26, c26, l26, rfl, hv26, hb26⟩; have R26 := Lib.hid hv26; clear hv26; have hK26 := bt hK25 hb26)
      | (go_at_call 13; refine (Same_iv R26.out (HJA.out.below hK26)).mono ?_; rintro e w27 ⟨rfl, hb27⟩; have hK27 := bt hK26 hb27))
    go_wp2_with fail
    go_meet
    exact ⟨rfl, hK27⟩
  case rest =>
  obtain ⟨rfl, hb11⟩ := hcut
  obtain ⟨w11, hw11⟩ : ∃ v, v = wc := ⟨_, rfl⟩
  rw [← hw11] at hb11 ⊢
  clear hw11 wc
  have xHJA := Lib.hid (HJA.out.below hb11)
  have xHJB := Lib.hid (HJB.out.below hb11)
  have xHJC := Lib.hid (HJC.out.below hb11)
  have xV1 := Lib.hid (V1.out.below hb11)
  have xV2 := Lib.hid (V2.out.below hb11)
  have xV3 := Lib.hid (V3.out.below hb11)
  have xV4 := Lib.hid (V4.out.below hb11)
  have xHIA := Lib.hid (HIA.out.below hb11)
  have xHIB := Lib.hid (HIB.out.below hb11)
  have xHIC := Lib.hid (HIC.out.below hb11)
  have xHI1 := Lib.hid (HI1.out.below hb11)
  have xHI2 := Lib.hid (HI2.out.below hb11)
  have xHI3 := Lib.hid (HI3.out.below hb11)
  have xHI4 := Lib.hid (HI4.out.below hb11)
  have xHTT := Lib.hid (HTT.out.below hb11)
  have xHK9 := Lib.hid (bt HK9.out hb11)
  clear HJA HJB HJC V1 V2 V3 V4 HIA HIB HIC HI1 HI2 HI3 HI4 HTT HK9 hb11
  have HJA := xHJA
  clear xHJA
  have HJB := xHJB
  clear xHJB
  have HJC := xHJC
  clear xHJC
  have V1 := xV1
  clear xV1
  have V2 := xV2
  clear xV2
  have V3 := xV3
  clear xV3
  have V4 := xV4
  clear xV4
  have HIA := xHIA
  clear xHIA
  have HIB := xHIB
  clear xHIB
  have HIC := xHIC
  clear xHIC
  have HI1 := xHI1
  clear xHI1
  have HI2 := xHI2
  clear xHI2
  have HI3 := xHI3
  clear xHI3
  have HI4 := xHI4
  clear xHI4
  have HTT := xHTT
  clear xHTT
  have HK9 := xHK9
  clear xHK9
  go_upto_region 7 with fail
  go_cut [13] (fun s wx => s = .bool true ∧ Below w11.heap.size w11 wx)
  case first =>
    as_aux_lemma =>
    have S5 : ∀ W, Below w11.heap.size w11 W → W.cell? ⟨w.heap.size, 0, none⟩ = some (.bool na) ∧ W.cell? ⟨w.heap.size, 1, none⟩ = some (.slice A l.length ca) ∧ W.cell? ⟨w.heap.size + 1 + 1, 0, none⟩ = some (.bool nc) ∧ W.cell? ⟨w.heap.size + 1 + 1, 1, none⟩ = some (.slice C m.length cc) ∧ W.cell? ⟨qd, 0, none⟩ = some (.bool n2) ∧ W.cell? ⟨qd, 1, none⟩ = some (.slice A2 l2.length c2) ∧ W.cell? ⟨pp, 0, none⟩ = some (.bool n3) ∧ W.cell? ⟨pp, 1, none⟩ = some (.slice A3 l3.length c3) := fun W hb =>
      ⟨cell_below HIA.out.c0 hb, cell_below HIA.out.c1 hb, cell_below HIC.out.c0 hb, cell_below HIC.out.c1 hb, cell_below HI2.out.c0 hb, cell_below HI2.out.c1 hb, cell_below HI3.out.c0 hb, cell_below HI3.out.c1 hb⟩
    have HS5 := Lib.hid S5
    clear S5
    have tk20 : True := trivial
    have tk22 : True := trivial
    have tk23 : True := trivial
    go_region_held3 (fun W => W.cell? ⟨w.heap.size, 0, none⟩ = some (.bool na) ∧ W.cell? ⟨w.heap.size, 1, none⟩ = some (.slice A l.length ca) ∧ W.cell? ⟨w.heap.size + 1 + 1, 0, none⟩ = some (.bool nc) ∧ W.cell? ⟨w.heap.size + 1 + 1, 1, none⟩ = some (.slice C m.length cc) ∧ W.cell? ⟨qd, 0, none⟩ = some (.bool n2) ∧ W.cell? ⟨qd, 1, none⟩ = some (.slice A2 l2.length c2) ∧ W.cell? ⟨pp, 0, none⟩ = some (.bool n3) ∧ W.cell? ⟨pp, 1, none⟩ = some (.slice A3 l3.length c3))
      (first | (refine HS5.out _ ?_; (first | assumption | exact bd (b0 _) _ | exact b0 _)))
      (first
      | (go_at_call 18; have _t := tk20; refine (Mul_iv (HJA.out.below (bd (b0 _) _)) (V2.out.below (bd (b0 _) _)) (z := za * (zb + zc)) (by rfl) (lt_le (lt_mul HTA.out (lt_add HTB.out HTC.out)) (by decide))).mono ?_; clear tk20 _t; rintro e w20 ⟨n20, A20, c20, l20, rfl, hv20, hb20⟩; have R20 := Lib.hid hv20; clear hv20; have hK20 := bdn hb20)
      | (go_at_call 18; refine (Mul_iv (HJA.out.below hK20) (HJC.out.below hK20) (z := za * zc) (by rfl) (lt_le (lt_mul HTA.out HTC.out) (by decide))).mono ?_; rintro e w21 ⟨n21, A21, c21, l21, rfl, hv21, hb21⟩; have R21 := Lib.hid hv21; clear hv21; have hK21 := bt hK20 hb21)
      | (go_at_call 17; have _t := tk22; refine (Add_iv (V3.out.below hK21) R21.out (z := za * (zb + zc)) (by exact (Int.mul_add _ _ _).symm) (lt_le (lt_mul HTA.out (lt_add HTB.out HTC.out)) (by decide))).mono ?_; clear tk22 _t; rintro e w22 ⟨n22, A22, c22, l22, rfl, hv22, hb22⟩; have R22 := Lib.hid hv22; clear hv22; have hK22 := bt hK21 hb22)
      | (go_at_call 13; have _t := tk23; refine (Same_iv (IV.below (IV.below R20.out hb21) hb22) R22.out).mono ?_; clear tk23 _t; rintro e w23 ⟨rfl, hb23⟩; have hK23 := bt hK22 hb23)
      | (go_at_call 21; refine (Neg_iv (HJA.out.below hK23) (z := -za) (by rfl) (lt_le (lt_neg HTA.out) (by decide))).mono ?_; rintro e w24 ⟨n24, A24, c24, l24, rfl, hv24, hb24⟩; have R24 := Lib.hid hv24; clear hv24; have hK24 := bt hK23 hb24)
      | (go_at_call 17; refine (Add_iv (HJA.out.below hK24) R24.out (z := 0) (by omega) (lt_le (lt_one (by decide)) (by decide))).mono ?_; rintro e w25 ⟨n25, A25, c25, l25, rfl, hv25, hb25⟩; have R25 := Lib.hid hv25; clear hv25; have hK25 := bt hK24 hb25)
      | (go_at_call 19; refine (Of_iv _ 0 (by decide) (by decide)).mono ?_; rintro e w26 ⟨n26, A26, c26, l26, rfl, hv26, hb26⟩; have R26 := Lib.hid hv26; clear hv26; have hK26 := bt hK25 hb26)
      | (go_at_call 13; refine (Same_iv (IV.below R25.out hb26) R26.out).mono ?_; rintro e w27 ⟨rfl, hb27⟩; have hK27 := bt hK26 hb27))
    go_wp2_with fail
    go_meet
    exact ⟨rfl, hK27⟩
  case rest =>
  obtain ⟨rfl, hb12⟩ := hcut
  obtain ⟨w12, hw12⟩ : ∃ v, v = wc := ⟨_, rfl⟩
  rw [← hw12] at hb12 ⊢
  clear hw12 wc
  have xHJA := Lib.hid (HJA.out.below hb12)
  have xHJB := Lib.hid (HJB.out.below hb12)
  have xHJC := Lib.hid (HJC.out.below hb12)
  have xV1 := Lib.hid (V1.out.below hb12)
  have xV2 := Lib.hid (V2.out.below hb12)
  have xV3 := Lib.hid (V3.out.below hb12)
  have xV4 := Lib.hid (V4.out.below hb12)
  have xHIA := Lib.hid (HIA.out.below hb12)
  have xHIB := Lib.hid (HIB.out.below hb12)
  have xHIC := Lib.hid (HIC.out.below hb12)
  have xHI1 := Lib.hid (HI1.out.below hb12)
  have xHI2 := Lib.hid (HI2.out.below hb12)
  have xHI3 := Lib.hid (HI3.out.below hb12)
  have xHI4 := Lib.hid (HI4.out.below hb12)
  have xHTT := Lib.hid (HTT.out.below hb12)
  have xHK9 := Lib.hid (bt HK9.out hb12)
  clear HJA HJB HJC V1 V2 V3 V4 HIA HIB HIC HI1 HI2 HI3 HI4 HTT HK9 hb12
  have HJA := xHJA
  clear xHJA
  have HJB := xHJB
  clear xHJB
  have HJC := xHJC
  clear xHJC
  have V1 := xV1
  clear xV1
  have V2 := xV2
  clear xV2
  have V3 := xV3
  clear xV3
  have V4 := xV4
  clear xV4
  have HIA := xHIA
  clear xHIA
  have HIB := xHIB
  clear xHIB
  have HIC := xHIC
  clear xHIC
  have HI1 := xHI1
  clear xHI1
  have HI2 := xHI2
  clear xHI2
  have HI3 := xHI3
  clear xHI3
  have HI4 := xHI4
  clear xHI4
  have HTT := xHTT
  clear xHTT
  have HK9 := xHK9
  clear xHK9
  obtain ⟨d, hd⟩ : ∃ d, cmpI za zb = d := ⟨_, rfl⟩
  have HD := Lib.hid hd
  clear hd
  have y0 := HIA.out.c0
  have y1 := HIA.out.c1
  have y2 := HIB.out.c0
  have y3 := HIB.out.c1
  go_wp2_with fail
  refine (Cmp_iv HJA.out HJB.out HD.out).mono ?_
  rintro e w13 ⟨rfl, hb13⟩
  clear y0 y1 y2 y3
  have xHJA := Lib.hid (HJA.out.below hb13)
  have xHJB := Lib.hid (HJB.out.below hb13)
  have xHJC := Lib.hid (HJC.out.below hb13)
  have xV1 := Lib.hid (V1.out.below hb13)
  have xV2 := Lib.hid (V2.out.below hb13)
  have xV3 := Lib.hid (V3.out.below hb13)
  have xV4 := Lib.hid (V4.out.below hb13)
  have xHIA := Lib.hid (HIA.out.below hb13)
  have xHIB := Lib.hid (HIB.out.below hb13)
  have xHIC := Lib.hid (HIC.out.below hb13)
  have xHI1 := Lib.hid (HI1.out.below hb13)
  have xHI2 := Lib.hid (HI2.out.below hb13)
  have xHI3 := Lib.hid (HI3.out.below hb13)
  have xHI4 := Lib.hid (HI4.out.below hb13)
  have xHTT := Lib.hid (HTT.out.below hb13)
  have xHK9 := Lib.hid (bt HK9.out hb13)
  clear HJA HJB HJC V1 V2 V3 V4 HIA HIB HIC HI1 HI2 HI3 HI4 HTT HK9 hb13
  have HJA := xHJA
  clear xHJA
  have HJB := xHJB
  clear xHJB
  have HJC := xHJC
  clear xHJC
  have V1 := xV1
  clear xV1
  have V2 := xV2
  clear xV2
  have V3 := xV3
  clear xV3
  have V4 := xV4
  clear xV4
  have HIA := xHIA
  clear xHIA
  have HIB := xHIB
  clear xHIB
  have HIC := xHIC
  clear xHIC
  have HI1 := xHI1
  clear xHI1
  have HI2 := xHI2
  clear xHI2
  have HI3 := xHI3
  clear xHI3
  have HI4 := xHI4
  clear xHI4
  have HTT := xHTT
  clear xHTT
  have HK9 := xHK9
  clear xHK9
  go_upto_region 9 with fail
  go_cut [15] (fun s wx => s = .bool true ∧ Below w13.heap.size w13 wx)
  case first =>
    as_aux_lemma =>
    have S5 : ∀ W, Below w13.heap.size w13 W → W.cell? ⟨w.heap.size, 0, none⟩ = some (.bool na) ∧ W.cell? ⟨w.heap.size, 1, none⟩ = some (.slice A l.length ca) ∧ W.cell? ⟨w.heap.size + 1, 0, none⟩ = some (.bool nb) ∧ W.cell? ⟨w.heap.size + 1, 1, none⟩ = some (.slice B k.length cb) ∧ W.cell? ⟨w.heap.size + 1 + 1, 0, none⟩ = some (.bool nc) ∧ W.cell? ⟨w.heap.size + 1 + 1, 1, none⟩ = some (.slice C m.length cc) ∧ W.cell? ⟨qd, 0, none⟩ = some (.bool n2) ∧ W.cell? ⟨qd, 1, none⟩ = some (.slice A2 l2.length c2) := fun W hb =>
      ⟨cell_below HIA.out.c0 hb, cell_below HIA.out.c1 hb, cell_below HIB.out.c0 hb, cell_below HIB.out.c1 hb, cell_below HIC.out.c0 hb, cell_below HIC.out.c1 hb, cell_below HI2.out.c0 hb, cell_below HI2.out.c1 hb⟩
    have HS5 := Lib.hid S5
    clear S5
    obtain ⟨v, e, f, Hv, He, Hf, hwv, hcase⟩ := ring_cases (zc := zc) HD.out
    have tk22 : True := trivial
    have tk24 : True := trivial
    have tk25 : True := trivial
    rcases hcase with ⟨q1, q2⟩ | ⟨q1, q2, q3, q4⟩ | ⟨q1, q2, q3, q4, q5, q6⟩
    · refine wp_region_noPanic ?_
      refine wp_region_held_drew (S := fun W => W.cell? ⟨w.heap.size, 0, none⟩ = some (.bool na) ∧ W.cell? ⟨w.heap.size, 1, none⟩ = some (.slice A l.length ca) ∧ W.cell? ⟨w.heap.size + 1, 0, none⟩ = some (.bool nb) ∧ W.cell? ⟨w.heap.size + 1, 1, none⟩ = some (.slice B k.length cb) ∧ W.cell? ⟨w.heap.size + 1 + 1, 0, none⟩ = some (.bool nc) ∧ W.cell? ⟨w.heap.size + 1 + 1, 1, none⟩ = some (.slice C m.length cc) ∧ W.cell? ⟨qd, 0, none⟩ = some (.bool n2) ∧ W.cell? ⟨qd, 1, none⟩ = some (.slice A2 l2.length c2)) (by kernel_rfl) (by (try dsimp only); ((refine HS5.out _ ?_; (first | assumption | exact bd (b0 _) _ | exact b0 _)))) (fun hHeld => ?_)
      refine wpAnyH_take (i := 0) (oi := { dst := some 118, op := Op.move (Operand.tmp 14), type := 3, pos := "law.go:97", after := #[], guard := none }) (v := ?_) rfl (by kernel_rfl) (by kernel_rfl) (by kernel_rfl) (fun _ _ _ h => h) (Or.inl ⟨by rfl, ?_⟩) (by assumption) ?_
      rotate_left
      · (intro w hSw; (try dsimp only at hSw); go_simp; all_goals with_reducible rfl)
      try simp only [Act.put, List.setIfInBounds_toArray, List.set_cons_zero, List.set_cons_succ]
      refine wpAnyH_take (i := 1) (oi := { dst := some 119, op := Op.load 24 (Operand.tmp 3), type := 24, pos := "law.go:97", after := #[], guard := none }) (v := ?_) rfl (by kernel_rfl) (by kernel_rfl) (by kernel_rfl) (fun _ _ _ h => h) (Or.inl ⟨by rfl, ?_⟩) (by assumption) ?_
      rotate_left
      · (intro w hSw; (try dsimp only at hSw); go_simp; all_goals with_reducible rfl)
      try simp only [Act.put, List.setIfInBounds_toArray, List.set_cons_zero, List.set_cons_succ]
      refine wpAnyH_take (i := 2) (oi := { dst := some 120, op := Op.load 24 (Operand.tmp 4), type := 24, pos := "law.go:97", after := #[], guard := none }) (v := ?_) rfl (by kernel_rfl) (by kernel_rfl) (by kernel_rfl) (fun _ _ _ h => h) (Or.inl ⟨by rfl, ?_⟩) (by assumption) ?_
      rotate_left
      · (intro w hSw; (try dsimp only at hSw); go_simp; all_goals with_reducible rfl)
      try simp only [Act.put, List.setIfInBounds_toArray, List.set_cons_zero, List.set_cons_succ]
      refine wpAnyH_ready (rs := [3]) (by kernel_rfl) (by simp) ?_
      refine AllReadyH.cons (o := { dst := some 121, op := Op.call { callee := Callee.value (Operand.func 20), args := #[Operand.tmp 119, Operand.tmp 120], argTypes := #[24, 24] }, type := 24, pos := "law.go:97", after := #[{ on := 1, ground := Ground.data }, { on := 2, ground := Ground.data }], guard := none }) rfl ?_ AllReadyH.nil
      intro K hK
      go_simp
      (go_at_call 20; refine (Sub_iv (HJA.out.below (bd (b0 _) _)) (HJB.out.below (bd (b0 _) _)) (z := za - zb) (by rfl) (lt_le (lt_sub HTA.out HTB.out) (by decide))).mono ?_; rintro e w20 ⟨n20, A20, c20, l20, rfl, hv20, hb20⟩; have R20 := Lib.hid hv20; clear hv20; have hK20 := bdn hb20)
      try go_wp2_with fail
      refine hK.out _ _ (by (try dsimp only); ((refine HS5.out _ ?_; (first | assumption | exact bd (b0 _) _ | exact b0 _)))) (fun hHeld => ?_)
      clear hK K
      try simp only [Act.put, List.setIfInBounds_toArray, List.set_cons_zero, List.set_cons_succ]
      refine wpAnyH_ready (rs := [4]) (by kernel_rfl) (by simp) ?_
      refine AllReadyH.cons (o := { dst := some 122, op := Op.call { callee := Callee.value (Operand.func 23), args := #[Operand.tmp 121], argTypes := #[24] }, type := 3, pos := "law.go:97", after := #[{ on := 3, ground := Ground.data }, { on := 3, ground := Ground.chain }], guard := none }) rfl ?_ AllReadyH.nil
      intro K hK
      go_simp
      (go_at_call 23; refine (Sign_iv R20.out ((cmpI_sub _ _).trans HD.out)).mono ?_; rintro e w21 ⟨rfl, hb21⟩; have hK21 := bt hK20 hb21)
      try go_wp2_with fail
      refine hK.out _ _ (by (try dsimp only); ((refine HS5.out _ ?_; (first | assumption | exact bd (b0 _) _ | exact b0 _)))) (fun hHeld => ?_)
      clear hK K
      try simp only [Act.put, List.setIfInBounds_toArray, List.set_cons_zero, List.set_cons_succ]
      refine wpAnyH_take (i := 5) (oi := { dst := some 123, op := Op.binOp BinOp.eql 3 (Operand.tmp 118) (Operand.tmp 122) 3, type := 4, pos := "law.go:97", after := #[{ on := 0, ground := Ground.data }, { on := 4, ground := Ground.data }], guard := none }) (v := ?_) rfl (by kernel_rfl) (by kernel_rfl) (by kernel_rfl) (fun _ _ _ h => h) (Or.inl ⟨by rfl, ?_⟩) (by assumption) ?_
      rotate_left
      · (intro w hSw; (try dsimp only at hSw); go_simp; all_goals with_reducible rfl)
      try simp only [Act.put, List.setIfInBounds_toArray, List.set_cons_zero, List.set_cons_succ]
      refine wpAnyH_take (i := 6) (oi := { dst := some 124, op := Op.move (Operand.tmp 123), type := 4, pos := "law.go:97", after := #[{ on := 5, ground := Ground.data }, { on := 4, ground := Ground.chain }], guard := none }) (v := ?_) rfl (by kernel_rfl) (by kernel_rfl) (by kernel_rfl) (fun _ _ _ h => h) (Or.inl ⟨by rfl, ?_⟩) (by assumption) ?_
      rotate_left
      · (intro w hSw; (try dsimp only at hSw); go_simp; all_goals with_reducible rfl)
      try simp only [Act.put, List.setIfInBounds_toArray, List.set_cons_zero, List.set_cons_succ]
      refine wpAnyH_take (i := 7) (oi := { dst := some 125, op := Op.move (Operand.tmp 14), type := 3, pos := "law.go:97", after := #[{ on := 6, ground := Ground.guard }], guard := some (6, true) }) (v := ?_) rfl (by kernel_rfl) (by kernel_rfl) (by kernel_rfl) (fun _ _ _ h => h) (Or.inl ⟨by rfl, ?_⟩) (by assumption) ?_
      rotate_left
      · (intro w hSw; (try dsimp only at hSw); go_simp; all_goals with_reducible rfl)
      try simp only [Act.put, List.setIfInBounds_toArray, List.set_cons_zero, List.set_cons_succ]
      refine wpAnyH_take (i := 8) (oi := { dst := some 126, op := Op.load 24 (Operand.tmp 4), type := 24, pos := "law.go:97", after := #[{ on := 6, ground := Ground.guard }], guard := some (6, true) }) (v := ?_) rfl (by kernel_rfl) (by kernel_rfl) (by kernel_rfl) (fun _ _ _ h => h) (Or.inl ⟨by rfl, ?_⟩) (by assumption) ?_
      rotate_left
      · (intro w hSw; (try dsimp only at hSw); go_simp; all_goals with_reducible rfl)
      try simp only [Act.put, List.setIfInBounds_toArray, List.set_cons_zero, List.set_cons_succ]
      refine wpAnyH_take (i := 9) (oi := { dst := some 127, op := Op.load 24 (Operand.tmp 3), type := 24, pos := "law.go:97", after := #[{ on := 6, ground := Ground.guard }], guard := some (6, true) }) (v := ?_) rfl (by kernel_rfl) (by kernel_rfl) (by kernel_rfl) (fun _ _ _ h => h) (Or.inl ⟨by rfl, ?_⟩) (by assumption) ?_
      rotate_left
      · (intro w hSw; (try dsimp only at hSw); go_simp; all_goals with_reducible rfl)
      try simp only [Act.put, List.setIfInBounds_toArray, List.set_cons_zero, List.set_cons_succ]
      refine wpAnyH_ready (rs := [10]) (by kernel_rfl) (by simp) ?_
      refine AllReadyH.cons (o := { dst := some 128, op := Op.call { callee := Callee.value (Operand.func 22), args := #[Operand.tmp 126, Operand.tmp 127], argTypes := #[24, 24] }, type := 3, pos := "law.go:97", after := #[{ on := 8, ground := Ground.data }, { on := 9, ground := Ground.data }, { on := 6, ground := Ground.chain }, { on := 6, ground := Ground.guard }], guard := some (6, true) }) rfl ?_ AllReadyH.nil
      intro K hK
      go_simp
      (go_at_call 22; have _t := tk22; refine (Cmp_iv (HJB.out.below hK21) (HJA.out.below hK21) Hv.out).mono ?_; clear tk22 _t; rintro e w22 ⟨rfl, hb22⟩; have hK22 := bt hK21 hb22)
      try go_wp2_with fail
      refine hK.out _ _ (by (try dsimp only); ((refine HS5.out _ ?_; (first | assumption | exact bd (b0 _) _ | exact b0 _)))) (fun hHeld => ?_)
      clear hK K
      try simp only [Act.put, List.setIfInBounds_toArray, List.set_cons_zero, List.set_cons_succ]
      refine wpAnyH_take (i := 11) (oi := { dst := some 129, op := Op.unOp UnOp.neg 3 (Operand.tmp 128), type := 3, pos := "law.go:97", after := #[{ on := 10, ground := Ground.data }, { on := 6, ground := Ground.guard }], guard := some (6, true) }) (v := ?_) rfl (by kernel_rfl) (by kernel_rfl) (by kernel_rfl) (fun _ _ _ h => h) (Or.inl ⟨by rfl, ?_⟩) (by assumption) ?_
      rotate_left
      · (intro w hSw; (try dsimp only at hSw); go_simp; all_goals with_reducible rfl)
      try simp only [Act.put, List.setIfInBounds_toArray, List.set_cons_zero, List.set_cons_succ]
      refine wpAnyH_take (i := 12) (oi := { dst := some 130, op := Op.binOp BinOp.eql 3 (Operand.tmp 125) (Operand.tmp 129) 3, type := 4, pos := "law.go:97", after := #[{ on := 7, ground := Ground.data }, { on := 11, ground := Ground.data }, { on := 6, ground := Ground.guard }], guard := some (6, true) }) (v := ?_) rfl (by kernel_rfl) (by kernel_rfl) (by kernel_rfl) (fun _ _ _ h => h) (Or.inl ⟨by rfl, ?_⟩) (by assumption) ?_
      rotate_left
      · (intro w hSw; (try dsimp only at hSw); go_simp; all_goals with_reducible rfl)
      try simp only [Act.put, List.setIfInBounds_toArray, List.set_cons_zero, List.set_cons_succ]
      refine wpAnyH_take (i := 13) (oi := { dst := some 131, op := Op.pick (Operand.tmp 124) (Operand.tmp 130) (Operand.const (Value.bool false)), type := 4, pos := "law.go:97", after := #[{ on := 6, ground := Ground.data }, { on := 12, ground := Ground.data }], guard := none }) (v := ?_) rfl (by kernel_rfl) (by kernel_rfl) (by kernel_rfl) (fun _ _ _ h => h) (Or.inl ⟨by rfl, ?_⟩) (by assumption) ?_
      rotate_left
      · (intro w hSw; (try dsimp only at hSw); go_simp; all_goals with_reducible rfl)
      try simp only [Act.put, List.setIfInBounds_toArray, List.set_cons_zero, List.set_cons_succ]
      refine wpAnyH_take (i := 14) (oi := { dst := some 132, op := Op.move (Operand.tmp 131), type := 4, pos := "law.go:97", after := #[{ on := 13, ground := Ground.data }, { on := 10, ground := Ground.chain }], guard := none }) (v := ?_) rfl (by kernel_rfl) (by kernel_rfl) (by kernel_rfl) (fun _ _ _ h => h) (Or.inl ⟨by rfl, ?_⟩) (by assumption) ?_
      rotate_left
      · (intro w hSw; (try dsimp only at hSw); go_simp; all_goals with_reducible rfl)
      try simp only [Act.put, List.setIfInBounds_toArray, List.set_cons_zero, List.set_cons_succ]
      refine wpAnyH_take (i := 15) (oi := { dst := some 133, op := Op.move (Operand.tmp 14), type := 3, pos := "law.go:97", after := #[{ on := 14, ground := Ground.guard }], guard := some (14, true) }) (v := ?_) rfl (by kernel_rfl) (by kernel_rfl) (by kernel_rfl) (fun _ _ _ h => h) (Or.inl ⟨by rfl, ?_⟩) (by assumption) ?_
      rotate_left
      · (intro w hSw; (try dsimp only at hSw); go_simp; all_goals with_reducible rfl)
      try simp only [Act.put, List.setIfInBounds_toArray, List.set_cons_zero, List.set_cons_succ]
      refine wpAnyH_take (i := 16) (oi := { dst := some 134, op := Op.load 24 (Operand.tmp 3), type := 24, pos := "law.go:97", after := #[{ on := 14, ground := Ground.guard }], guard := some (14, true) }) (v := ?_) rfl (by kernel_rfl) (by kernel_rfl) (by kernel_rfl) (fun _ _ _ h => h) (Or.inl ⟨by rfl, ?_⟩) (by assumption) ?_
      rotate_left
      · (intro w hSw; (try dsimp only at hSw); go_simp; all_goals with_reducible rfl)
      try simp only [Act.put, List.setIfInBounds_toArray, List.set_cons_zero, List.set_cons_succ]
      refine wpAnyH_take (i := 17) (oi := { dst := some 135, op := Op.load 24 (Operand.tmp 5), type := 24, pos := "law.go:97", after := #[{ on := 14, ground := Ground.guard }], guard := some (14, true) }) (v := ?_) rfl (by kernel_rfl) (by kernel_rfl) (by kernel_rfl) (fun _ _ _ h => h) (Or.inl ⟨by rfl, ?_⟩) (by assumption) ?_
      rotate_left
      · (intro w hSw; (try dsimp only at hSw); go_simp; all_goals with_reducible rfl)
      try simp only [Act.put, List.setIfInBounds_toArray, List.set_cons_zero, List.set_cons_succ]
      refine wpAnyH_take (i := 19) (oi := { dst := some 137, op := Op.load 24 (Operand.tmp 8), type := 24, pos := "law.go:97", after := #[{ on := 14, ground := Ground.guard }], guard := some (14, true) }) (v := ?_) rfl (by kernel_rfl) (by kernel_rfl) (by kernel_rfl) (fun _ _ _ h => h) (Or.inl ⟨by rfl, ?_⟩) (by assumption) ?_
      rotate_left
      · (intro w hSw; (try dsimp only at hSw); go_simp; all_goals with_reducible rfl)
      try simp only [Act.put, List.setIfInBounds_toArray, List.set_cons_zero, List.set_cons_succ]
      refine wpAnyH_ready (rs := [18]) (by kernel_rfl) (by simp) ?_
      refine AllReadyH.cons (o := { dst := some 136, op := Op.call { callee := Callee.value (Operand.func 17), args := #[Operand.tmp 134, Operand.tmp 135], argTypes := #[24, 24] }, type := 24, pos := "law.go:97", after := #[{ on := 16, ground := Ground.data }, { on := 17, ground := Ground.data }, { on := 14, ground := Ground.chain }, { on := 14, ground := Ground.guard }], guard := some (14, true) }) rfl ?_ AllReadyH.nil
      intro K hK
      go_simp
      (go_at_call 17; refine (Add_iv (HJA.out.below hK22) (HJC.out.below hK22) (z := za + zc) (by rfl) (lt_le (lt_add HTA.out HTC.out) (by decide))).mono ?_; rintro e w23 ⟨n23, A23, c23, l23, rfl, hv23, hb23⟩; have R23 := Lib.hid hv23; clear hv23; have hK23 := bt hK22 hb23)
      try go_wp2_with fail
      refine hK.out _ _ (by (try dsimp only); ((refine HS5.out _ ?_; (first | assumption | exact bd (b0 _) _ | exact b0 _)))) (fun hHeld => ?_)
      clear hK K
      try simp only [Act.put, List.setIfInBounds_toArray, List.set_cons_zero, List.set_cons_succ]
      refine wpAnyH_ready (rs := [20]) (by kernel_rfl) (by simp) ?_
      refine AllReadyH.cons (o := { dst := some 138, op := Op.call { callee := Callee.value (Operand.func 22), args := #[Operand.tmp 136, Operand.tmp 137], argTypes := #[24, 24] }, type := 3, pos := "law.go:97", after := #[{ on := 18, ground := Ground.data }, { on := 19, ground := Ground.data }, { on := 18, ground := Ground.chain }, { on := 14, ground := Ground.guard }], guard := some (14, true) }) rfl ?_ AllReadyH.nil
      intro K hK
      go_simp
      (go_at_call 22; have _t := tk24; refine (Cmp_iv R23.out (V2.out.below hK23) ((cmpI_addr _ _ _).trans HD.out)).mono ?_; clear tk24 _t; rintro e w24 ⟨rfl, hb24⟩; have hK24 := bt hK23 hb24)
      try go_wp2_with fail
      refine hK.out _ _ (by (try dsimp only); ((refine HS5.out _ ?_; (first | assumption | exact bd (b0 _) _ | exact b0 _)))) (fun hHeld => ?_)
      clear hK K
      try simp only [Act.put, List.setIfInBounds_toArray, List.set_cons_zero, List.set_cons_succ]
      refine wpAnyH_take (i := 21) (oi := { dst := some 139, op := Op.binOp BinOp.eql 3 (Operand.tmp 133) (Operand.tmp 138) 3, type := 4, pos := "law.go:97", after := #[{ on := 15, ground := Ground.data }, { on := 20, ground := Ground.data }, { on := 14, ground := Ground.guard }], guard := some (14, true) }) (v := ?_) rfl (by kernel_rfl) (by kernel_rfl) (by kernel_rfl) (fun _ _ _ h => h) (Or.inl ⟨by rfl, ?_⟩) (by assumption) ?_
      rotate_left
      · (intro w hSw; (try dsimp only at hSw); go_simp; all_goals with_reducible rfl)
      try simp only [Act.put, List.setIfInBounds_toArray, List.set_cons_zero, List.set_cons_succ]
      refine wpAnyH_take (i := 22) (oi := { dst := some 140, op := Op.pick (Operand.tmp 132) (Operand.tmp 139) (Operand.const (Value.bool false)), type := 4, pos := "law.go:97", after := #[{ on := 14, ground := Ground.data }, { on := 21, ground := Ground.data }], guard := none }) (v := ?_) rfl (by kernel_rfl) (by kernel_rfl) (by kernel_rfl) (fun _ _ _ h => h) (Or.inl ⟨by rfl, ?_⟩) (by assumption) ?_
      rotate_left
      · (intro w hSw; (try dsimp only at hSw); go_simp; all_goals with_reducible rfl)
      try simp only [Act.put, List.setIfInBounds_toArray, List.set_cons_zero, List.set_cons_succ]
      refine wpAnyH_take (i := 23) (oi := { dst := some 141, op := Op.move (Operand.tmp 140), type := 4, pos := "law.go:97", after := #[{ on := 22, ground := Ground.data }, { on := 20, ground := Ground.chain }], guard := none }) (v := ?_) rfl (by kernel_rfl) (by kernel_rfl) (by kernel_rfl) (fun _ _ _ h => h) (Or.inl ⟨by rfl, ?_⟩) (by assumption) ?_
      rotate_left
      · (intro w hSw; (try dsimp only at hSw); go_simp; all_goals with_reducible rfl)
      try simp only [Act.put, List.setIfInBounds_toArray, List.set_cons_zero, List.set_cons_succ]
      refine wpAnyH_take (i := 24) (oi := { dst := some 142, op := Op.move (Operand.tmp 14), type := 3, pos := "law.go:97", after := #[{ on := 23, ground := Ground.guard }], guard := some (23, true) }) (v := ?_) rfl (by kernel_rfl) (by kernel_rfl) (by kernel_rfl) (fun _ _ _ h => h) (Or.inl ⟨by rfl, ?_⟩) (by assumption) ?_
      rotate_left
      · (intro w hSw; (try dsimp only at hSw); go_simp; all_goals with_reducible rfl)
      try simp only [Act.put, List.setIfInBounds_toArray, List.set_cons_zero, List.set_cons_succ]
      refine wpAnyH_take (i := 25) (oi := { dst := some 143, op := Op.binOp BinOp.gtr 3 (Operand.tmp 142) (Operand.const (Value.int IntKind.i64 0)) 3, type := 4, pos := "law.go:97", after := #[{ on := 24, ground := Ground.data }, { on := 23, ground := Ground.guard }], guard := some (23, true) }) (v := ?_) rfl (by kernel_rfl) (by kernel_rfl) (by kernel_rfl) (fun _ _ _ h => h) (Or.inl ⟨by rfl, ?_⟩) (by assumption) ?_
      rotate_left
      · (intro w hSw; (try dsimp only at hSw); go_simp; all_goals with_reducible rfl)
      try simp only [Act.put, List.setIfInBounds_toArray, List.set_cons_zero, List.set_cons_succ]
      refine wpAnyH_take (i := 26) (oi := { dst := some 144, op := Op.move (Operand.tmp 143), type := 4, pos := "law.go:97", after := #[{ on := 25, ground := Ground.data }, { on := 23, ground := Ground.chain }, { on := 23, ground := Ground.guard }], guard := some (23, true) }) (v := ?_) rfl (by kernel_rfl) (by kernel_rfl) (by kernel_rfl) (fun _ _ _ h => h) (Or.inl ⟨by rfl, ?_⟩) (by assumption) ?_
      rotate_left
      · (intro w hSw; (try dsimp only at hSw); go_simp; all_goals with_reducible rfl)
      try simp only [Act.put, List.setIfInBounds_toArray, List.set_cons_zero, List.set_cons_succ]
      try simp only [q2, gt_iff_lt]
      refine wpAnyH_take (i := 27) (oi := { dst := some 145, op := Op.load 24 (Operand.tmp 4), type := 24, pos := "law.go:97", after := #[{ on := 26, ground := Ground.guard }], guard := some (26, false) }) (v := undef) rfl (by kernel_rfl) (by kernel_rfl) (by kernel_rfl) (fun _ _ _ h => h) (Or.inr ⟨by rfl, rfl⟩) (by assumption) ?_
      try simp only [Act.put, List.setIfInBounds_toArray, List.set_cons_zero, List.set_cons_succ]
      refine wpAnyH_take (i := 28) (oi := { dst := some 146, op := Op.load 24 (Operand.tmp 5), type := 24, pos := "law.go:97", after := #[{ on := 26, ground := Ground.guard }], guard := some (26, false) }) (v := undef) rfl (by kernel_rfl) (by kernel_rfl) (by kernel_rfl) (fun _ _ _ h => h) (Or.inr ⟨by rfl, rfl⟩) (by assumption) ?_
      try simp only [Act.put, List.setIfInBounds_toArray, List.set_cons_zero, List.set_cons_succ]
      refine wpAnyH_take (i := 29) (oi := { dst := some 147, op := Op.call { callee := Callee.value (Operand.func 22), args := #[Operand.tmp 145, Operand.tmp 146], argTypes := #[24, 24] }, type := 3, pos := "law.go:97", after := #[{ on := 27, ground := Ground.data }, { on := 28, ground := Ground.data }, { on := 26, ground := Ground.chain }, { on := 26, ground := Ground.guard }], guard := some (26, false) }) (v := undef) rfl (by kernel_rfl) (by kernel_rfl) (by kernel_rfl) (fun _ _ _ h => h) (Or.inr ⟨by rfl, rfl⟩) (by assumption) ?_
      try simp only [Act.put, List.setIfInBounds_toArray, List.set_cons_zero, List.set_cons_succ]
      refine wpAnyH_take (i := 30) (oi := { dst := some 148, op := Op.binOp BinOp.gtr 3 (Operand.tmp 147) (Operand.const (Value.int IntKind.i64 0)) 3, type := 4, pos := "law.go:97", after := #[{ on := 29, ground := Ground.data }, { on := 26, ground := Ground.guard }], guard := some (26, false) }) (v := undef) rfl (by kernel_rfl) (by kernel_rfl) (by kernel_rfl) (fun _ _ _ h => h) (Or.inr ⟨by rfl, rfl⟩) (by assumption) ?_
      try simp only [Act.put, List.setIfInBounds_toArray, List.set_cons_zero, List.set_cons_succ]
      refine wpAnyH_take (i := 31) (oi := { dst := some 149, op := Op.pick (Operand.tmp 144) (Operand.const (Value.bool true)) (Operand.tmp 148), type := 4, pos := "law.go:97", after := #[{ on := 26, ground := Ground.data }, { on := 30, ground := Ground.data }, { on := 23, ground := Ground.guard }], guard := some (23, true) }) (v := ?_) rfl (by kernel_rfl) (by kernel_rfl) (by kernel_rfl) (fun _ _ _ h => h) (Or.inl ⟨by rfl, ?_⟩) (by assumption) ?_
      rotate_left
      · (intro w hSw; (try dsimp only at hSw); go_simp; all_goals with_reducible rfl)
      try simp only [Act.put, List.setIfInBounds_toArray, List.set_cons_zero, List.set_cons_succ]
      refine wpAnyH_take (i := 32) (oi := { dst := some 150, op := Op.move (Operand.tmp 149), type := 4, pos := "law.go:97", after := #[{ on := 31, ground := Ground.data }, { on := 29, ground := Ground.chain }, { on := 23, ground := Ground.guard }], guard := some (23, true) }) (v := ?_) rfl (by kernel_rfl) (by kernel_rfl) (by kernel_rfl) (fun _ _ _ h => h) (Or.inl ⟨by rfl, ?_⟩) (by assumption) ?_
      rotate_left
      · (intro w hSw; (try dsimp only at hSw); go_simp; all_goals with_reducible rfl)
      try simp only [Act.put, List.setIfInBounds_toArray, List.set_cons_zero, List.set_cons_succ]
      refine wpAnyH_take (i := 33) (oi := { dst := some 151, op := Op.load 24 (Operand.tmp 3), type := 24, pos := "law.go:97", after := #[{ on := 32, ground := Ground.guard }], guard := some (32, false) }) (v := undef) rfl (by kernel_rfl) (by kernel_rfl) (by kernel_rfl) (fun _ _ _ h => h) (Or.inr ⟨by rfl, rfl⟩) (by assumption) ?_
      try simp only [Act.put, List.setIfInBounds_toArray, List.set_cons_zero, List.set_cons_succ]
      refine wpAnyH_take (i := 34) (oi := { dst := some 152, op := Op.load 24 (Operand.tmp 5), type := 24, pos := "law.go:97", after := #[{ on := 32, ground := Ground.guard }], guard := some (32, false) }) (v := undef) rfl (by kernel_rfl) (by kernel_rfl) (by kernel_rfl) (fun _ _ _ h => h) (Or.inr ⟨by rfl, rfl⟩) (by assumption) ?_
      try simp only [Act.put, List.setIfInBounds_toArray, List.set_cons_zero, List.set_cons_succ]
      refine wpAnyH_take (i := 35) (oi := { dst := some 153, op := Op.call { callee := Callee.value (Operand.func 22), args := #[Operand.tmp 151, Operand.tmp 152], argTypes := #[24, 24] }, type := 3, pos := "law.go:97", after := #[{ on := 33, ground := Ground.data }, { on := 34, ground := Ground.data }, { on := 32, ground := Ground.chain }, { on := 32, ground := Ground.guard }], guard := some (32, false) }) (v := undef) rfl (by kernel_rfl) (by kernel_rfl) (by kernel_rfl) (fun _ _ _ h => h) (Or.inr ⟨by rfl, rfl⟩) (by assumption) ?_
      try simp only [Act.put, List.setIfInBounds_toArray, List.set_cons_zero, List.set_cons_succ]
      refine wpAnyH_take (i := 36) (oi := { dst := some 154, op := Op.binOp BinOp.leq 3 (Operand.tmp 153) (Operand.const (Value.int IntKind.i64 0)) 3, type := 4, pos := "law.go:97", after := #[{ on := 35, ground := Ground.data }, { on := 32, ground := Ground.guard }], guard := some (32, false) }) (v := undef) rfl (by kernel_rfl) (by kernel_rfl) (by kernel_rfl) (fun _ _ _ h => h) (Or.inr ⟨by rfl, rfl⟩) (by assumption) ?_
      try simp only [Act.put, List.setIfInBounds_toArray, List.set_cons_zero, List.set_cons_succ]
      refine wpAnyH_take (i := 37) (oi := { dst := some 155, op := Op.pick (Operand.tmp 150) (Operand.const (Value.bool true)) (Operand.tmp 154), type := 4, pos := "law.go:97", after := #[{ on := 32, ground := Ground.data }, { on := 36, ground := Ground.data }, { on := 23, ground := Ground.guard }], guard := some (23, true) }) (v := ?_) rfl (by kernel_rfl) (by kernel_rfl) (by kernel_rfl) (fun _ _ _ h => h) (Or.inl ⟨by rfl, ?_⟩) (by assumption) ?_
      rotate_left
      · (intro w hSw; (try dsimp only at hSw); go_simp; all_goals with_reducible rfl)
      try simp only [Act.put, List.setIfInBounds_toArray, List.set_cons_zero, List.set_cons_succ]
      refine wpAnyH_take (i := 38) (oi := { dst := some 156, op := Op.pick (Operand.tmp 141) (Operand.tmp 155) (Operand.const (Value.bool false)), type := 4, pos := "law.go:97", after := #[{ on := 23, ground := Ground.data }, { on := 37, ground := Ground.data }], guard := none }) (v := ?_) rfl (by kernel_rfl) (by kernel_rfl) (by kernel_rfl) (fun _ _ _ h => h) (Or.inl ⟨by rfl, ?_⟩) (by assumption) ?_
      rotate_left
      · (intro w hSw; (try dsimp only at hSw); go_simp; all_goals with_reducible rfl)
      try simp only [Act.put, List.setIfInBounds_toArray, List.set_cons_zero, List.set_cons_succ]
      refine wpAnyH_take (i := 39) (oi := { dst := some 15, op := Op.assign (Operand.tmp 156), type := 4, pos := "law.go:97", after := #[{ on := 38, ground := Ground.data }, { on := 35, ground := Ground.chain }, { on := 0, ground := Ground.phase }, { on := 1, ground := Ground.phase }, { on := 2, ground := Ground.phase }, { on := 3, ground := Ground.phase }, { on := 4, ground := Ground.phase }, { on := 5, ground := Ground.phase }, { on := 6, ground := Ground.phase }, { on := 7, ground := Ground.phase }, { on := 8, ground := Ground.phase }, { on := 9, ground := Ground.phase }, { on := 10, ground := Ground.phase }, { on := 11, ground := Ground.phase }, { on := 12, ground := Ground.phase }, { on := 13, ground := Ground.phase }, { on := 14, ground := Ground.phase }, { on := 15, ground := Ground.phase }, { on := 16, ground := Ground.phase }, { on := 17, ground := Ground.phase }, { on := 18, ground := Ground.phase }, { on := 19, ground := Ground.phase }, { on := 20, ground := Ground.phase }, { on := 21, ground := Ground.phase }, { on := 22, ground := Ground.phase }, { on := 23, ground := Ground.phase }, { on := 24, ground := Ground.phase }, { on := 25, ground := Ground.phase }, { on := 26, ground := Ground.phase }, { on := 27, ground := Ground.phase }, { on := 28, ground := Ground.phase }, { on := 29, ground := Ground.phase }, { on := 30, ground := Ground.phase }, { on := 31, ground := Ground.phase }, { on := 32, ground := Ground.phase }, { on := 33, ground := Ground.phase }, { on := 34, ground := Ground.phase }, { on := 35, ground := Ground.phase }, { on := 36, ground := Ground.phase }, { on := 37, ground := Ground.phase }, { on := 38, ground := Ground.phase }], guard := none }) (v := ?_) rfl (by kernel_rfl) (by kernel_rfl) (by kernel_rfl) (fun _ _ _ h => h) (Or.inl ⟨by rfl, ?_⟩) (by assumption) ?_
      rotate_left
      · (intro w hSw; (try dsimp only at hSw); go_simp; all_goals with_reducible rfl)
      try simp only [Act.put, List.setIfInBounds_toArray, List.set_cons_zero, List.set_cons_succ]
      refine wpAnyH_done (by kernel_rfl) ?_ _
      refine NoPanic.normal ?_
      go_wp2_with fail
      go_meet
      exact ⟨rfl, hK24⟩
    · refine wp_region_noPanic ?_
      refine wp_region_held_drew (S := fun W => W.cell? ⟨w.heap.size, 0, none⟩ = some (.bool na) ∧ W.cell? ⟨w.heap.size, 1, none⟩ = some (.slice A l.length ca) ∧ W.cell? ⟨w.heap.size + 1, 0, none⟩ = some (.bool nb) ∧ W.cell? ⟨w.heap.size + 1, 1, none⟩ = some (.slice B k.length cb) ∧ W.cell? ⟨w.heap.size + 1 + 1, 0, none⟩ = some (.bool nc) ∧ W.cell? ⟨w.heap.size + 1 + 1, 1, none⟩ = some (.slice C m.length cc) ∧ W.cell? ⟨qd, 0, none⟩ = some (.bool n2) ∧ W.cell? ⟨qd, 1, none⟩ = some (.slice A2 l2.length c2)) (by kernel_rfl) (by (try dsimp only); ((refine HS5.out _ ?_; (first | assumption | exact bd (b0 _) _ | exact b0 _)))) (fun hHeld => ?_)
      refine wpAnyH_take (i := 0) (oi := { dst := some 118, op := Op.move (Operand.tmp 14), type := 3, pos := "law.go:97", after := #[], guard := none }) (v := ?_) rfl (by kernel_rfl) (by kernel_rfl) (by kernel_rfl) (fun _ _ _ h => h) (Or.inl ⟨by rfl, ?_⟩) (by assumption) ?_
      rotate_left
      · (intro w hSw; (try dsimp only at hSw); go_simp; all_goals with_reducible rfl)
      try simp only [Act.put, List.setIfInBounds_toArray, List.set_cons_zero, List.set_cons_succ]
      refine wpAnyH_take (i := 1) (oi := { dst := some 119, op := Op.load 24 (Operand.tmp 3), type := 24, pos := "law.go:97", after := #[], guard := none }) (v := ?_) rfl (by kernel_rfl) (by kernel_rfl) (by kernel_rfl) (fun _ _ _ h => h) (Or.inl ⟨by rfl, ?_⟩) (by assumption) ?_
      rotate_left
      · (intro w hSw; (try dsimp only at hSw); go_simp; all_goals with_reducible rfl)
      try simp only [Act.put, List.setIfInBounds_toArray, List.set_cons_zero, List.set_cons_succ]
      refine wpAnyH_take (i := 2) (oi := { dst := some 120, op := Op.load 24 (Operand.tmp 4), type := 24, pos := "law.go:97", after := #[], guard := none }) (v := ?_) rfl (by kernel_rfl) (by kernel_rfl) (by kernel_rfl) (fun _ _ _ h => h) (Or.inl ⟨by rfl, ?_⟩) (by assumption) ?_
      rotate_left
      · (intro w hSw; (try dsimp only at hSw); go_simp; all_goals with_reducible rfl)
      try simp only [Act.put, List.setIfInBounds_toArray, List.set_cons_zero, List.set_cons_succ]
      refine wpAnyH_ready (rs := [3]) (by kernel_rfl) (by simp) ?_
      refine AllReadyH.cons (o := { dst := some 121, op := Op.call { callee := Callee.value (Operand.func 20), args := #[Operand.tmp 119, Operand.tmp 120], argTypes := #[24, 24] }, type := 24, pos := "law.go:97", after := #[{ on := 1, ground := Ground.data }, { on := 2, ground := Ground.data }], guard := none }) rfl ?_ AllReadyH.nil
      intro K hK
      go_simp
      (go_at_call 20; refine (Sub_iv (HJA.out.below (bd (b0 _) _)) (HJB.out.below (bd (b0 _) _)) (z := za - zb) (by rfl) (lt_le (lt_sub HTA.out HTB.out) (by decide))).mono ?_; rintro e w20 ⟨n20, A20, c20, l20, rfl, hv20, hb20⟩; have R20 := Lib.hid hv20; clear hv20; have hK20 := bdn hb20)
      try go_wp2_with fail
      refine hK.out _ _ (by (try dsimp only); ((refine HS5.out _ ?_; (first | assumption | exact bd (b0 _) _ | exact b0 _)))) (fun hHeld => ?_)
      clear hK K
      try simp only [Act.put, List.setIfInBounds_toArray, List.set_cons_zero, List.set_cons_succ]
      refine wpAnyH_ready (rs := [4]) (by kernel_rfl) (by simp) ?_
      refine AllReadyH.cons (o := { dst := some 122, op := Op.call { callee := Callee.value (Operand.func 23), args := #[Operand.tmp 121], argTypes := #[24] }, type := 3, pos := "law.go:97", after := #[{ on := 3, ground := Ground.data }, { on := 3, ground := Ground.chain }], guard := none }) rfl ?_ AllReadyH.nil
      intro K hK
      go_simp
      (go_at_call 23; refine (Sign_iv R20.out ((cmpI_sub _ _).trans HD.out)).mono ?_; rintro e w21 ⟨rfl, hb21⟩; have hK21 := bt hK20 hb21)
      try go_wp2_with fail
      refine hK.out _ _ (by (try dsimp only); ((refine HS5.out _ ?_; (first | assumption | exact bd (b0 _) _ | exact b0 _)))) (fun hHeld => ?_)
      clear hK K
      try simp only [Act.put, List.setIfInBounds_toArray, List.set_cons_zero, List.set_cons_succ]
      refine wpAnyH_take (i := 5) (oi := { dst := some 123, op := Op.binOp BinOp.eql 3 (Operand.tmp 118) (Operand.tmp 122) 3, type := 4, pos := "law.go:97", after := #[{ on := 0, ground := Ground.data }, { on := 4, ground := Ground.data }], guard := none }) (v := ?_) rfl (by kernel_rfl) (by kernel_rfl) (by kernel_rfl) (fun _ _ _ h => h) (Or.inl ⟨by rfl, ?_⟩) (by assumption) ?_
      rotate_left
      · (intro w hSw; (try dsimp only at hSw); go_simp; all_goals with_reducible rfl)
      try simp only [Act.put, List.setIfInBounds_toArray, List.set_cons_zero, List.set_cons_succ]
      refine wpAnyH_take (i := 6) (oi := { dst := some 124, op := Op.move (Operand.tmp 123), type := 4, pos := "law.go:97", after := #[{ on := 5, ground := Ground.data }, { on := 4, ground := Ground.chain }], guard := none }) (v := ?_) rfl (by kernel_rfl) (by kernel_rfl) (by kernel_rfl) (fun _ _ _ h => h) (Or.inl ⟨by rfl, ?_⟩) (by assumption) ?_
      rotate_left
      · (intro w hSw; (try dsimp only at hSw); go_simp; all_goals with_reducible rfl)
      try simp only [Act.put, List.setIfInBounds_toArray, List.set_cons_zero, List.set_cons_succ]
      refine wpAnyH_take (i := 7) (oi := { dst := some 125, op := Op.move (Operand.tmp 14), type := 3, pos := "law.go:97", after := #[{ on := 6, ground := Ground.guard }], guard := some (6, true) }) (v := ?_) rfl (by kernel_rfl) (by kernel_rfl) (by kernel_rfl) (fun _ _ _ h => h) (Or.inl ⟨by rfl, ?_⟩) (by assumption) ?_
      rotate_left
      · (intro w hSw; (try dsimp only at hSw); go_simp; all_goals with_reducible rfl)
      try simp only [Act.put, List.setIfInBounds_toArray, List.set_cons_zero, List.set_cons_succ]
      refine wpAnyH_take (i := 8) (oi := { dst := some 126, op := Op.load 24 (Operand.tmp 4), type := 24, pos := "law.go:97", after := #[{ on := 6, ground := Ground.guard }], guard := some (6, true) }) (v := ?_) rfl (by kernel_rfl) (by kernel_rfl) (by kernel_rfl) (fun _ _ _ h => h) (Or.inl ⟨by rfl, ?_⟩) (by assumption) ?_
      rotate_left
      · (intro w hSw; (try dsimp only at hSw); go_simp; all_goals with_reducible rfl)
      try simp only [Act.put, List.setIfInBounds_toArray, List.set_cons_zero, List.set_cons_succ]
      refine wpAnyH_take (i := 9) (oi := { dst := some 127, op := Op.load 24 (Operand.tmp 3), type := 24, pos := "law.go:97", after := #[{ on := 6, ground := Ground.guard }], guard := some (6, true) }) (v := ?_) rfl (by kernel_rfl) (by kernel_rfl) (by kernel_rfl) (fun _ _ _ h => h) (Or.inl ⟨by rfl, ?_⟩) (by assumption) ?_
      rotate_left
      · (intro w hSw; (try dsimp only at hSw); go_simp; all_goals with_reducible rfl)
      try simp only [Act.put, List.setIfInBounds_toArray, List.set_cons_zero, List.set_cons_succ]
      refine wpAnyH_ready (rs := [10]) (by kernel_rfl) (by simp) ?_
      refine AllReadyH.cons (o := { dst := some 128, op := Op.call { callee := Callee.value (Operand.func 22), args := #[Operand.tmp 126, Operand.tmp 127], argTypes := #[24, 24] }, type := 3, pos := "law.go:97", after := #[{ on := 8, ground := Ground.data }, { on := 9, ground := Ground.data }, { on := 6, ground := Ground.chain }, { on := 6, ground := Ground.guard }], guard := some (6, true) }) rfl ?_ AllReadyH.nil
      intro K hK
      go_simp
      (go_at_call 22; have _t := tk22; refine (Cmp_iv (HJB.out.below hK21) (HJA.out.below hK21) Hv.out).mono ?_; clear tk22 _t; rintro e w22 ⟨rfl, hb22⟩; have hK22 := bt hK21 hb22)
      try go_wp2_with fail
      refine hK.out _ _ (by (try dsimp only); ((refine HS5.out _ ?_; (first | assumption | exact bd (b0 _) _ | exact b0 _)))) (fun hHeld => ?_)
      clear hK K
      try simp only [Act.put, List.setIfInBounds_toArray, List.set_cons_zero, List.set_cons_succ]
      refine wpAnyH_take (i := 11) (oi := { dst := some 129, op := Op.unOp UnOp.neg 3 (Operand.tmp 128), type := 3, pos := "law.go:97", after := #[{ on := 10, ground := Ground.data }, { on := 6, ground := Ground.guard }], guard := some (6, true) }) (v := ?_) rfl (by kernel_rfl) (by kernel_rfl) (by kernel_rfl) (fun _ _ _ h => h) (Or.inl ⟨by rfl, ?_⟩) (by assumption) ?_
      rotate_left
      · (intro w hSw; (try dsimp only at hSw); go_simp; all_goals with_reducible rfl)
      try simp only [Act.put, List.setIfInBounds_toArray, List.set_cons_zero, List.set_cons_succ]
      refine wpAnyH_take (i := 12) (oi := { dst := some 130, op := Op.binOp BinOp.eql 3 (Operand.tmp 125) (Operand.tmp 129) 3, type := 4, pos := "law.go:97", after := #[{ on := 7, ground := Ground.data }, { on := 11, ground := Ground.data }, { on := 6, ground := Ground.guard }], guard := some (6, true) }) (v := ?_) rfl (by kernel_rfl) (by kernel_rfl) (by kernel_rfl) (fun _ _ _ h => h) (Or.inl ⟨by rfl, ?_⟩) (by assumption) ?_
      rotate_left
      · (intro w hSw; (try dsimp only at hSw); go_simp; all_goals with_reducible rfl)
      try simp only [Act.put, List.setIfInBounds_toArray, List.set_cons_zero, List.set_cons_succ]
      refine wpAnyH_take (i := 13) (oi := { dst := some 131, op := Op.pick (Operand.tmp 124) (Operand.tmp 130) (Operand.const (Value.bool false)), type := 4, pos := "law.go:97", after := #[{ on := 6, ground := Ground.data }, { on := 12, ground := Ground.data }], guard := none }) (v := ?_) rfl (by kernel_rfl) (by kernel_rfl) (by kernel_rfl) (fun _ _ _ h => h) (Or.inl ⟨by rfl, ?_⟩) (by assumption) ?_
      rotate_left
      · (intro w hSw; (try dsimp only at hSw); go_simp; all_goals with_reducible rfl)
      try simp only [Act.put, List.setIfInBounds_toArray, List.set_cons_zero, List.set_cons_succ]
      refine wpAnyH_take (i := 14) (oi := { dst := some 132, op := Op.move (Operand.tmp 131), type := 4, pos := "law.go:97", after := #[{ on := 13, ground := Ground.data }, { on := 10, ground := Ground.chain }], guard := none }) (v := ?_) rfl (by kernel_rfl) (by kernel_rfl) (by kernel_rfl) (fun _ _ _ h => h) (Or.inl ⟨by rfl, ?_⟩) (by assumption) ?_
      rotate_left
      · (intro w hSw; (try dsimp only at hSw); go_simp; all_goals with_reducible rfl)
      try simp only [Act.put, List.setIfInBounds_toArray, List.set_cons_zero, List.set_cons_succ]
      refine wpAnyH_take (i := 15) (oi := { dst := some 133, op := Op.move (Operand.tmp 14), type := 3, pos := "law.go:97", after := #[{ on := 14, ground := Ground.guard }], guard := some (14, true) }) (v := ?_) rfl (by kernel_rfl) (by kernel_rfl) (by kernel_rfl) (fun _ _ _ h => h) (Or.inl ⟨by rfl, ?_⟩) (by assumption) ?_
      rotate_left
      · (intro w hSw; (try dsimp only at hSw); go_simp; all_goals with_reducible rfl)
      try simp only [Act.put, List.setIfInBounds_toArray, List.set_cons_zero, List.set_cons_succ]
      refine wpAnyH_take (i := 16) (oi := { dst := some 134, op := Op.load 24 (Operand.tmp 3), type := 24, pos := "law.go:97", after := #[{ on := 14, ground := Ground.guard }], guard := some (14, true) }) (v := ?_) rfl (by kernel_rfl) (by kernel_rfl) (by kernel_rfl) (fun _ _ _ h => h) (Or.inl ⟨by rfl, ?_⟩) (by assumption) ?_
      rotate_left
      · (intro w hSw; (try dsimp only at hSw); go_simp; all_goals with_reducible rfl)
      try simp only [Act.put, List.setIfInBounds_toArray, List.set_cons_zero, List.set_cons_succ]
      refine wpAnyH_take (i := 17) (oi := { dst := some 135, op := Op.load 24 (Operand.tmp 5), type := 24, pos := "law.go:97", after := #[{ on := 14, ground := Ground.guard }], guard := some (14, true) }) (v := ?_) rfl (by kernel_rfl) (by kernel_rfl) (by kernel_rfl) (fun _ _ _ h => h) (Or.inl ⟨by rfl, ?_⟩) (by assumption) ?_
      rotate_left
      · (intro w hSw; (try dsimp only at hSw); go_simp; all_goals with_reducible rfl)
      try simp only [Act.put, List.setIfInBounds_toArray, List.set_cons_zero, List.set_cons_succ]
      refine wpAnyH_take (i := 19) (oi := { dst := some 137, op := Op.load 24 (Operand.tmp 8), type := 24, pos := "law.go:97", after := #[{ on := 14, ground := Ground.guard }], guard := some (14, true) }) (v := ?_) rfl (by kernel_rfl) (by kernel_rfl) (by kernel_rfl) (fun _ _ _ h => h) (Or.inl ⟨by rfl, ?_⟩) (by assumption) ?_
      rotate_left
      · (intro w hSw; (try dsimp only at hSw); go_simp; all_goals with_reducible rfl)
      try simp only [Act.put, List.setIfInBounds_toArray, List.set_cons_zero, List.set_cons_succ]
      refine wpAnyH_ready (rs := [18]) (by kernel_rfl) (by simp) ?_
      refine AllReadyH.cons (o := { dst := some 136, op := Op.call { callee := Callee.value (Operand.func 17), args := #[Operand.tmp 134, Operand.tmp 135], argTypes := #[24, 24] }, type := 24, pos := "law.go:97", after := #[{ on := 16, ground := Ground.data }, { on := 17, ground := Ground.data }, { on := 14, ground := Ground.chain }, { on := 14, ground := Ground.guard }], guard := some (14, true) }) rfl ?_ AllReadyH.nil
      intro K hK
      go_simp
      (go_at_call 17; refine (Add_iv (HJA.out.below hK22) (HJC.out.below hK22) (z := za + zc) (by rfl) (lt_le (lt_add HTA.out HTC.out) (by decide))).mono ?_; rintro e w23 ⟨n23, A23, c23, l23, rfl, hv23, hb23⟩; have R23 := Lib.hid hv23; clear hv23; have hK23 := bt hK22 hb23)
      try go_wp2_with fail
      refine hK.out _ _ (by (try dsimp only); ((refine HS5.out _ ?_; (first | assumption | exact bd (b0 _) _ | exact b0 _)))) (fun hHeld => ?_)
      clear hK K
      try simp only [Act.put, List.setIfInBounds_toArray, List.set_cons_zero, List.set_cons_succ]
      refine wpAnyH_ready (rs := [20]) (by kernel_rfl) (by simp) ?_
      refine AllReadyH.cons (o := { dst := some 138, op := Op.call { callee := Callee.value (Operand.func 22), args := #[Operand.tmp 136, Operand.tmp 137], argTypes := #[24, 24] }, type := 3, pos := "law.go:97", after := #[{ on := 18, ground := Ground.data }, { on := 19, ground := Ground.data }, { on := 18, ground := Ground.chain }, { on := 14, ground := Ground.guard }], guard := some (14, true) }) rfl ?_ AllReadyH.nil
      intro K hK
      go_simp
      (go_at_call 22; have _t := tk24; refine (Cmp_iv R23.out (V2.out.below hK23) ((cmpI_addr _ _ _).trans HD.out)).mono ?_; clear tk24 _t; rintro e w24 ⟨rfl, hb24⟩; have hK24 := bt hK23 hb24)
      try go_wp2_with fail
      refine hK.out _ _ (by (try dsimp only); ((refine HS5.out _ ?_; (first | assumption | exact bd (b0 _) _ | exact b0 _)))) (fun hHeld => ?_)
      clear hK K
      try simp only [Act.put, List.setIfInBounds_toArray, List.set_cons_zero, List.set_cons_succ]
      refine wpAnyH_take (i := 21) (oi := { dst := some 139, op := Op.binOp BinOp.eql 3 (Operand.tmp 133) (Operand.tmp 138) 3, type := 4, pos := "law.go:97", after := #[{ on := 15, ground := Ground.data }, { on := 20, ground := Ground.data }, { on := 14, ground := Ground.guard }], guard := some (14, true) }) (v := ?_) rfl (by kernel_rfl) (by kernel_rfl) (by kernel_rfl) (fun _ _ _ h => h) (Or.inl ⟨by rfl, ?_⟩) (by assumption) ?_
      rotate_left
      · (intro w hSw; (try dsimp only at hSw); go_simp; all_goals with_reducible rfl)
      try simp only [Act.put, List.setIfInBounds_toArray, List.set_cons_zero, List.set_cons_succ]
      refine wpAnyH_take (i := 22) (oi := { dst := some 140, op := Op.pick (Operand.tmp 132) (Operand.tmp 139) (Operand.const (Value.bool false)), type := 4, pos := "law.go:97", after := #[{ on := 14, ground := Ground.data }, { on := 21, ground := Ground.data }], guard := none }) (v := ?_) rfl (by kernel_rfl) (by kernel_rfl) (by kernel_rfl) (fun _ _ _ h => h) (Or.inl ⟨by rfl, ?_⟩) (by assumption) ?_
      rotate_left
      · (intro w hSw; (try dsimp only at hSw); go_simp; all_goals with_reducible rfl)
      try simp only [Act.put, List.setIfInBounds_toArray, List.set_cons_zero, List.set_cons_succ]
      refine wpAnyH_take (i := 23) (oi := { dst := some 141, op := Op.move (Operand.tmp 140), type := 4, pos := "law.go:97", after := #[{ on := 22, ground := Ground.data }, { on := 20, ground := Ground.chain }], guard := none }) (v := ?_) rfl (by kernel_rfl) (by kernel_rfl) (by kernel_rfl) (fun _ _ _ h => h) (Or.inl ⟨by rfl, ?_⟩) (by assumption) ?_
      rotate_left
      · (intro w hSw; (try dsimp only at hSw); go_simp; all_goals with_reducible rfl)
      try simp only [Act.put, List.setIfInBounds_toArray, List.set_cons_zero, List.set_cons_succ]
      refine wpAnyH_take (i := 24) (oi := { dst := some 142, op := Op.move (Operand.tmp 14), type := 3, pos := "law.go:97", after := #[{ on := 23, ground := Ground.guard }], guard := some (23, true) }) (v := ?_) rfl (by kernel_rfl) (by kernel_rfl) (by kernel_rfl) (fun _ _ _ h => h) (Or.inl ⟨by rfl, ?_⟩) (by assumption) ?_
      rotate_left
      · (intro w hSw; (try dsimp only at hSw); go_simp; all_goals with_reducible rfl)
      try simp only [Act.put, List.setIfInBounds_toArray, List.set_cons_zero, List.set_cons_succ]
      refine wpAnyH_take (i := 25) (oi := { dst := some 143, op := Op.binOp BinOp.gtr 3 (Operand.tmp 142) (Operand.const (Value.int IntKind.i64 0)) 3, type := 4, pos := "law.go:97", after := #[{ on := 24, ground := Ground.data }, { on := 23, ground := Ground.guard }], guard := some (23, true) }) (v := ?_) rfl (by kernel_rfl) (by kernel_rfl) (by kernel_rfl) (fun _ _ _ h => h) (Or.inl ⟨by rfl, ?_⟩) (by assumption) ?_
      rotate_left
      · (intro w hSw; (try dsimp only at hSw); go_simp; all_goals with_reducible rfl)
      try simp only [Act.put, List.setIfInBounds_toArray, List.set_cons_zero, List.set_cons_succ]
      refine wpAnyH_take (i := 26) (oi := { dst := some 144, op := Op.move (Operand.tmp 143), type := 4, pos := "law.go:97", after := #[{ on := 25, ground := Ground.data }, { on := 23, ground := Ground.chain }, { on := 23, ground := Ground.guard }], guard := some (23, true) }) (v := ?_) rfl (by kernel_rfl) (by kernel_rfl) (by kernel_rfl) (fun _ _ _ h => h) (Or.inl ⟨by rfl, ?_⟩) (by assumption) ?_
      rotate_left
      · (intro w hSw; (try dsimp only at hSw); go_simp; all_goals with_reducible rfl)
      try simp only [Act.put, List.setIfInBounds_toArray, List.set_cons_zero, List.set_cons_succ]
      try simp only [q2, gt_iff_lt]
      refine wpAnyH_take (i := 27) (oi := { dst := some 145, op := Op.load 24 (Operand.tmp 4), type := 24, pos := "law.go:97", after := #[{ on := 26, ground := Ground.guard }], guard := some (26, false) }) (v := ?_) rfl (by kernel_rfl) (by kernel_rfl) (by kernel_rfl) (fun _ _ _ h => h) (Or.inl ⟨by rfl, ?_⟩) (by assumption) ?_
      rotate_left
      · (intro w hSw; (try dsimp only at hSw); go_simp; all_goals with_reducible rfl)
      try simp only [Act.put, List.setIfInBounds_toArray, List.set_cons_zero, List.set_cons_succ]
      refine wpAnyH_take (i := 28) (oi := { dst := some 146, op := Op.load 24 (Operand.tmp 5), type := 24, pos := "law.go:97", after := #[{ on := 26, ground := Ground.guard }], guard := some (26, false) }) (v := ?_) rfl (by kernel_rfl) (by kernel_rfl) (by kernel_rfl) (fun _ _ _ h => h) (Or.inl ⟨by rfl, ?_⟩) (by assumption) ?_
      rotate_left
      · (intro w hSw; (try dsimp only at hSw); go_simp; all_goals with_reducible rfl)
      try simp only [Act.put, List.setIfInBounds_toArray, List.set_cons_zero, List.set_cons_succ]
      refine wpAnyH_ready (rs := [29]) (by kernel_rfl) (by simp) ?_
      refine AllReadyH.cons (o := { dst := some 147, op := Op.call { callee := Callee.value (Operand.func 22), args := #[Operand.tmp 145, Operand.tmp 146], argTypes := #[24, 24] }, type := 3, pos := "law.go:97", after := #[{ on := 27, ground := Ground.data }, { on := 28, ground := Ground.data }, { on := 26, ground := Ground.chain }, { on := 26, ground := Ground.guard }], guard := some (26, false) }) rfl ?_ AllReadyH.nil
      intro K hK
      go_simp
      (go_at_call 22; have _t := tk25; refine (Cmp_iv (HJB.out.below hK24) (HJC.out.below hK24) He.out).mono ?_; clear tk25 _t; rintro e w25 ⟨rfl, hb25⟩; have hK25 := bt hK24 hb25)
      try go_wp2_with fail
      refine hK.out _ _ (by (try dsimp only); ((refine HS5.out _ ?_; (first | assumption | exact bd (b0 _) _ | exact b0 _)))) (fun hHeld => ?_)
      clear hK K
      try simp only [Act.put, List.setIfInBounds_toArray, List.set_cons_zero, List.set_cons_succ]
      refine wpAnyH_take (i := 30) (oi := { dst := some 148, op := Op.binOp BinOp.gtr 3 (Operand.tmp 147) (Operand.const (Value.int IntKind.i64 0)) 3, type := 4, pos := "law.go:97", after := #[{ on := 29, ground := Ground.data }, { on := 26, ground := Ground.guard }], guard := some (26, false) }) (v := ?_) rfl (by kernel_rfl) (by kernel_rfl) (by kernel_rfl) (fun _ _ _ h => h) (Or.inl ⟨by rfl, ?_⟩) (by assumption) ?_
      rotate_left
      · (intro w hSw; (try dsimp only at hSw); go_simp; all_goals with_reducible rfl)
      try simp only [Act.put, List.setIfInBounds_toArray, List.set_cons_zero, List.set_cons_succ]
      try simp only [q4, gt_iff_lt]
      refine wpAnyH_take (i := 31) (oi := { dst := some 149, op := Op.pick (Operand.tmp 144) (Operand.const (Value.bool true)) (Operand.tmp 148), type := 4, pos := "law.go:97", after := #[{ on := 26, ground := Ground.data }, { on := 30, ground := Ground.data }, { on := 23, ground := Ground.guard }], guard := some (23, true) }) (v := ?_) rfl (by kernel_rfl) (by kernel_rfl) (by kernel_rfl) (fun _ _ _ h => h) (Or.inl ⟨by rfl, ?_⟩) (by assumption) ?_
      rotate_left
      · (intro w hSw; (try dsimp only at hSw); go_simp; all_goals with_reducible rfl)
      try simp only [Act.put, List.setIfInBounds_toArray, List.set_cons_zero, List.set_cons_succ]
      refine wpAnyH_take (i := 32) (oi := { dst := some 150, op := Op.move (Operand.tmp 149), type := 4, pos := "law.go:97", after := #[{ on := 31, ground := Ground.data }, { on := 29, ground := Ground.chain }, { on := 23, ground := Ground.guard }], guard := some (23, true) }) (v := ?_) rfl (by kernel_rfl) (by kernel_rfl) (by kernel_rfl) (fun _ _ _ h => h) (Or.inl ⟨by rfl, ?_⟩) (by assumption) ?_
      rotate_left
      · (intro w hSw; (try dsimp only at hSw); go_simp; all_goals with_reducible rfl)
      try simp only [Act.put, List.setIfInBounds_toArray, List.set_cons_zero, List.set_cons_succ]
      refine wpAnyH_take (i := 33) (oi := { dst := some 151, op := Op.load 24 (Operand.tmp 3), type := 24, pos := "law.go:97", after := #[{ on := 32, ground := Ground.guard }], guard := some (32, false) }) (v := undef) rfl (by kernel_rfl) (by kernel_rfl) (by kernel_rfl) (fun _ _ _ h => h) (Or.inr ⟨by rfl, rfl⟩) (by assumption) ?_
      try simp only [Act.put, List.setIfInBounds_toArray, List.set_cons_zero, List.set_cons_succ]
      refine wpAnyH_take (i := 34) (oi := { dst := some 152, op := Op.load 24 (Operand.tmp 5), type := 24, pos := "law.go:97", after := #[{ on := 32, ground := Ground.guard }], guard := some (32, false) }) (v := undef) rfl (by kernel_rfl) (by kernel_rfl) (by kernel_rfl) (fun _ _ _ h => h) (Or.inr ⟨by rfl, rfl⟩) (by assumption) ?_
      try simp only [Act.put, List.setIfInBounds_toArray, List.set_cons_zero, List.set_cons_succ]
      refine wpAnyH_take (i := 35) (oi := { dst := some 153, op := Op.call { callee := Callee.value (Operand.func 22), args := #[Operand.tmp 151, Operand.tmp 152], argTypes := #[24, 24] }, type := 3, pos := "law.go:97", after := #[{ on := 33, ground := Ground.data }, { on := 34, ground := Ground.data }, { on := 32, ground := Ground.chain }, { on := 32, ground := Ground.guard }], guard := some (32, false) }) (v := undef) rfl (by kernel_rfl) (by kernel_rfl) (by kernel_rfl) (fun _ _ _ h => h) (Or.inr ⟨by rfl, rfl⟩) (by assumption) ?_
      try simp only [Act.put, List.setIfInBounds_toArray, List.set_cons_zero, List.set_cons_succ]
      refine wpAnyH_take (i := 36) (oi := { dst := some 154, op := Op.binOp BinOp.leq 3 (Operand.tmp 153) (Operand.const (Value.int IntKind.i64 0)) 3, type := 4, pos := "law.go:97", after := #[{ on := 35, ground := Ground.data }, { on := 32, ground := Ground.guard }], guard := some (32, false) }) (v := undef) rfl (by kernel_rfl) (by kernel_rfl) (by kernel_rfl) (fun _ _ _ h => h) (Or.inr ⟨by rfl, rfl⟩) (by assumption) ?_
      try simp only [Act.put, List.setIfInBounds_toArray, List.set_cons_zero, List.set_cons_succ]
      refine wpAnyH_take (i := 37) (oi := { dst := some 155, op := Op.pick (Operand.tmp 150) (Operand.const (Value.bool true)) (Operand.tmp 154), type := 4, pos := "law.go:97", after := #[{ on := 32, ground := Ground.data }, { on := 36, ground := Ground.data }, { on := 23, ground := Ground.guard }], guard := some (23, true) }) (v := ?_) rfl (by kernel_rfl) (by kernel_rfl) (by kernel_rfl) (fun _ _ _ h => h) (Or.inl ⟨by rfl, ?_⟩) (by assumption) ?_
      rotate_left
      · (intro w hSw; (try dsimp only at hSw); go_simp; all_goals with_reducible rfl)
      try simp only [Act.put, List.setIfInBounds_toArray, List.set_cons_zero, List.set_cons_succ]
      refine wpAnyH_take (i := 38) (oi := { dst := some 156, op := Op.pick (Operand.tmp 141) (Operand.tmp 155) (Operand.const (Value.bool false)), type := 4, pos := "law.go:97", after := #[{ on := 23, ground := Ground.data }, { on := 37, ground := Ground.data }], guard := none }) (v := ?_) rfl (by kernel_rfl) (by kernel_rfl) (by kernel_rfl) (fun _ _ _ h => h) (Or.inl ⟨by rfl, ?_⟩) (by assumption) ?_
      rotate_left
      · (intro w hSw; (try dsimp only at hSw); go_simp; all_goals with_reducible rfl)
      try simp only [Act.put, List.setIfInBounds_toArray, List.set_cons_zero, List.set_cons_succ]
      refine wpAnyH_take (i := 39) (oi := { dst := some 15, op := Op.assign (Operand.tmp 156), type := 4, pos := "law.go:97", after := #[{ on := 38, ground := Ground.data }, { on := 35, ground := Ground.chain }, { on := 0, ground := Ground.phase }, { on := 1, ground := Ground.phase }, { on := 2, ground := Ground.phase }, { on := 3, ground := Ground.phase }, { on := 4, ground := Ground.phase }, { on := 5, ground := Ground.phase }, { on := 6, ground := Ground.phase }, { on := 7, ground := Ground.phase }, { on := 8, ground := Ground.phase }, { on := 9, ground := Ground.phase }, { on := 10, ground := Ground.phase }, { on := 11, ground := Ground.phase }, { on := 12, ground := Ground.phase }, { on := 13, ground := Ground.phase }, { on := 14, ground := Ground.phase }, { on := 15, ground := Ground.phase }, { on := 16, ground := Ground.phase }, { on := 17, ground := Ground.phase }, { on := 18, ground := Ground.phase }, { on := 19, ground := Ground.phase }, { on := 20, ground := Ground.phase }, { on := 21, ground := Ground.phase }, { on := 22, ground := Ground.phase }, { on := 23, ground := Ground.phase }, { on := 24, ground := Ground.phase }, { on := 25, ground := Ground.phase }, { on := 26, ground := Ground.phase }, { on := 27, ground := Ground.phase }, { on := 28, ground := Ground.phase }, { on := 29, ground := Ground.phase }, { on := 30, ground := Ground.phase }, { on := 31, ground := Ground.phase }, { on := 32, ground := Ground.phase }, { on := 33, ground := Ground.phase }, { on := 34, ground := Ground.phase }, { on := 35, ground := Ground.phase }, { on := 36, ground := Ground.phase }, { on := 37, ground := Ground.phase }, { on := 38, ground := Ground.phase }], guard := none }) (v := ?_) rfl (by kernel_rfl) (by kernel_rfl) (by kernel_rfl) (fun _ _ _ h => h) (Or.inl ⟨by rfl, ?_⟩) (by assumption) ?_
      rotate_left
      · (intro w hSw; (try dsimp only at hSw); go_simp; all_goals with_reducible rfl)
      try simp only [Act.put, List.setIfInBounds_toArray, List.set_cons_zero, List.set_cons_succ]
      refine wpAnyH_done (by kernel_rfl) ?_ _
      refine NoPanic.normal ?_
      go_wp2_with fail
      go_meet
      exact ⟨rfl, hK25⟩
    · go_region_held3 (fun W => W.cell? ⟨w.heap.size, 0, none⟩ = some (.bool na) ∧ W.cell? ⟨w.heap.size, 1, none⟩ = some (.slice A l.length ca) ∧ W.cell? ⟨w.heap.size + 1, 0, none⟩ = some (.bool nb) ∧ W.cell? ⟨w.heap.size + 1, 1, none⟩ = some (.slice B k.length cb) ∧ W.cell? ⟨w.heap.size + 1 + 1, 0, none⟩ = some (.bool nc) ∧ W.cell? ⟨w.heap.size + 1 + 1, 1, none⟩ = some (.slice C m.length cc) ∧ W.cell? ⟨qd, 0, none⟩ = some (.bool n2) ∧ W.cell? ⟨qd, 1, none⟩ = some (.slice A2 l2.length c2))
      (first | (refine HS5.out _ ?_; (first | assumption | exact bd (b0 _) _ | exact b0 _)))
      (first
      | (go_at_call 20; refine (Sub_iv (HJA.out.below (bd (b0 _) _)) (HJB.out.below (bd (b0 _) _)) (z := za - zb) (by rfl) (lt_le (lt_sub HTA.out HTB.out) (by decide))).mono ?_; rintro e w20 ⟨n20, A20, c20, l20, rfl, hv20, hb20⟩; have R20 := Lib.hid hv20; clear hv20; have hK20 := bdn hb20)
      | (go_at_call 23; refine (Sign_iv R20.out ((cmpI_sub _ _).trans HD.out)).mono ?_; rintro e w21 ⟨rfl, hb21⟩; have hK21 := bt hK20 hb21)
      | (go_at_call 22; have _t := tk22; refine (Cmp_iv (HJB.out.below hK21) (HJA.out.below hK21) Hv.out).mono ?_; clear tk22 _t; rintro e w22 ⟨rfl, hb22⟩; have hK22 := bt hK21 hb22)
      | (go_at_call 17; refine (Add_iv (HJA.out.below hK22) (HJC.out.below hK22) (z := za + zc) (by rfl) (lt_le (lt_add HTA.out HTC.out) (by decide))).mono ?_; rintro e w23 ⟨n23, A23, c23, l23, rfl, hv23, hb23⟩; have R23 := Lib.hid hv23; clear hv23; have hK23 := bt hK22 hb23)
      | (go_at_call 22; have _t := tk24; refine (Cmp_iv R23.out (V2.out.below hK23) ((cmpI_addr _ _ _).trans HD.out)).mono ?_; clear tk24 _t; rintro e w24 ⟨rfl, hb24⟩; have hK24 := bt hK23 hb24)
      | (go_at_call 22; have _t := tk25; refine (Cmp_iv (HJB.out.below hK24) (HJC.out.below hK24) He.out).mono ?_; clear tk25 _t; rintro e w25 ⟨rfl, hb25⟩; have hK25 := bt hK24 hb25)
      | (go_at_call 22; refine (Cmp_iv (HJA.out.below hK25) (HJC.out.below hK25) Hf.out).mono ?_; rintro e w26 ⟨rfl, hb26⟩; have hK26 := bt hK25 hb26))
      go_wp2_with fail
      go_meet
      exact ⟨rfl, hK26⟩
  case rest =>
  obtain ⟨rfl, hb14⟩ := hcut
  obtain ⟨w14, hw14⟩ : ∃ v, v = wc := ⟨_, rfl⟩
  rw [← hw14] at hb14 ⊢
  clear hw14 wc
  have xHJA := Lib.hid (HJA.out.below hb14)
  have xHJB := Lib.hid (HJB.out.below hb14)
  have xHJC := Lib.hid (HJC.out.below hb14)
  have xV1 := Lib.hid (V1.out.below hb14)
  have xV2 := Lib.hid (V2.out.below hb14)
  have xV3 := Lib.hid (V3.out.below hb14)
  have xV4 := Lib.hid (V4.out.below hb14)
  have xHIA := Lib.hid (HIA.out.below hb14)
  have xHIB := Lib.hid (HIB.out.below hb14)
  have xHIC := Lib.hid (HIC.out.below hb14)
  have xHI1 := Lib.hid (HI1.out.below hb14)
  have xHI2 := Lib.hid (HI2.out.below hb14)
  have xHI3 := Lib.hid (HI3.out.below hb14)
  have xHI4 := Lib.hid (HI4.out.below hb14)
  have xHTT := Lib.hid (HTT.out.below hb14)
  have xHK9 := Lib.hid (bt HK9.out hb14)
  clear HJA HJB HJC V1 V2 V3 V4 HIA HIB HIC HI1 HI2 HI3 HI4 HTT HK9 hb14
  have HJA := xHJA
  clear xHJA
  have HJB := xHJB
  clear xHJB
  have HJC := xHJC
  clear xHJC
  have V1 := xV1
  clear xV1
  have V2 := xV2
  clear xV2
  have V3 := xV3
  clear xV3
  have V4 := xV4
  clear xV4
  have HIA := xHIA
  clear xHIA
  have HIB := xHIB
  clear xHIB
  have HIC := xHIC
  clear xHIC
  have HI1 := xHI1
  clear xHI1
  have HI2 := xHI2
  clear xHI2
  have HI3 := xHI3
  clear xHI3
  have HI4 := xHI4
  clear xHI4
  have HTT := xHTT
  clear xHTT
  have HK9 := xHK9
  clear xHK9
  obtain ⟨sg, hsg⟩ : ∃ sg, cmpI zc 0 = sg := ⟨_, rfl⟩
  have hs3 := cmpI_three zc 0
  rw [hsg] at hs3
  have HS3 := Lib.hid hs3
  have HSG := Lib.hid hsg
  clear hs3 hsg
  have y0 := HIC.out.c0
  have y1 := HIC.out.c1
  go_wp2_with fail
  refine (Sign_iv HJC.out HSG.out).mono ?_
  rintro e w15 ⟨rfl, hb15⟩
  clear y0 y1
  have xHJA := Lib.hid (HJA.out.below hb15)
  have xHJB := Lib.hid (HJB.out.below hb15)
  have xHJC := Lib.hid (HJC.out.below hb15)
  have xV1 := Lib.hid (V1.out.below hb15)
  have xV2 := Lib.hid (V2.out.below hb15)
  have xV3 := Lib.hid (V3.out.below hb15)
  have xV4 := Lib.hid (V4.out.below hb15)
  have xHIA := Lib.hid (HIA.out.below hb15)
  have xHIB := Lib.hid (HIB.out.below hb15)
  have xHIC := Lib.hid (HIC.out.below hb15)
  have xHI1 := Lib.hid (HI1.out.below hb15)
  have xHI2 := Lib.hid (HI2.out.below hb15)
  have xHI3 := Lib.hid (HI3.out.below hb15)
  have xHI4 := Lib.hid (HI4.out.below hb15)
  have xHTT := Lib.hid (HTT.out.below hb15)
  have xHK9 := Lib.hid (bt HK9.out hb15)
  clear HJA HJB HJC V1 V2 V3 V4 HIA HIB HIC HI1 HI2 HI3 HI4 HTT HK9 hb15
  have HJA := xHJA
  clear xHJA
  have HJB := xHJB
  clear xHJB
  have HJC := xHJC
  clear xHJC
  have V1 := xV1
  clear xV1
  have V2 := xV2
  clear xV2
  have V3 := xV3
  clear xV3
  have V4 := xV4
  clear xV4
  have HIA := xHIA
  clear xHIA
  have HIB := xHIB
  clear xHIB
  have HIC := xHIC
  clear xHIC
  have HI1 := xHI1
  clear xHI1
  have HI2 := xHI2
  clear xHI2
  have HI3 := xHI3
  clear xHI3
  have HI4 := xHI4
  clear xHI4
  have HTT := xHTT
  clear xHTT
  have HK9 := xHK9
  clear xHK9
  obtain rfl | rfl | rfl := HS3.out
  · skip
    go_wp2_with fail
    refine (sane_any _ HTT.out).mono ?_
    rintro e w17 ⟨rfl, hb17⟩
    go_wp2_with fail
    go_ret
    exact ⟨rfl, bt HK9.out hb17⟩
  · skip
    go_wp2_with fail
    refine (sane_any _ HTT.out).mono ?_
    rintro e w17 ⟨rfl, hb17⟩
    go_wp2_with fail
    go_ret
    exact ⟨rfl, bt HK9.out hb17⟩
  · skip
    go_upto_region 11 with fail
    go_cut [15] (fun s wx => s = .bool true ∧ Below w15.heap.size w15 wx)
    case first =>
      as_aux_lemma =>
      have S5 : ∀ W, Below w15.heap.size w15 W → W.cell? ⟨w.heap.size, 0, none⟩ = some (.bool na) ∧ W.cell? ⟨w.heap.size, 1, none⟩ = some (.slice A l.length ca) ∧ W.cell? ⟨w.heap.size + 1 + 1, 0, none⟩ = some (.bool nc) ∧ W.cell? ⟨w.heap.size + 1 + 1, 1, none⟩ = some (.slice C m.length cc) ∧ W.cell? ⟨qq, 0, none⟩ = some (.bool n4) ∧ W.cell? ⟨qq, 1, none⟩ = some (.slice A4 l4.length c4) := fun W hb =>
        ⟨cell_below HIA.out.c0 hb, cell_below HIA.out.c1 hb, cell_below HIC.out.c0 hb, cell_below HIC.out.c1 hb, cell_below HI4.out.c0 hb, cell_below HI4.out.c1 hb⟩
      have HS5 := Lib.hid S5
      clear S5
      go_region_held3 (fun W => W.cell? ⟨w.heap.size, 0, none⟩ = some (.bool na) ∧ W.cell? ⟨w.heap.size, 1, none⟩ = some (.slice A l.length ca) ∧ W.cell? ⟨w.heap.size + 1 + 1, 0, none⟩ = some (.bool nc) ∧ W.cell? ⟨w.heap.size + 1 + 1, 1, none⟩ = some (.slice C m.length cc) ∧ W.cell? ⟨qq, 0, none⟩ = some (.bool n4) ∧ W.cell? ⟨qq, 1, none⟩ = some (.slice A4 l4.length c4))
        (first | (refine HS5.out _ ?_; (first | assumption | exact bd (b0 _) _ | exact b0 _)))
        (first
        | (go_at_call 18; refine (Mul_iv (HJA.out.below (bd (b0 _) _)) (HJC.out.below (bd (b0 _) _)) (z := za * zc) (by rfl) (lt_le (lt_mul HTA.out HTC.out) (by decide))).mono ?_; rintro e w20 ⟨n20, A20, c20, l20, rfl, hv20, hb20⟩; have R20 := Lib.hid hv20; clear hv20; have hK20 := bdn hb20)
        | (go_at_call 22; refine (Cmp_iv R20.out (V4.out.below hK20) ((cmpI_mulr (cmpI_gt.1 (by rw [HSG.out]; decide))).trans HD.out)).mono ?_; rintro e w21 ⟨rfl, hb21⟩; have hK21 := bt hK20 hb21))
      go_wp2_with fail
      go_meet
      exact ⟨rfl, hK21⟩
    case rest =>
    obtain ⟨rfl, hb16⟩ := hcut
    obtain ⟨w16, hw16⟩ : ∃ v, v = wc := ⟨_, rfl⟩
    rw [← hw16] at hb16 ⊢
    clear hw16 wc
    have xHJA := Lib.hid (HJA.out.below hb16)
    have xHJB := Lib.hid (HJB.out.below hb16)
    have xHJC := Lib.hid (HJC.out.below hb16)
    have xV1 := Lib.hid (V1.out.below hb16)
    have xV2 := Lib.hid (V2.out.below hb16)
    have xV3 := Lib.hid (V3.out.below hb16)
    have xV4 := Lib.hid (V4.out.below hb16)
    have xHIA := Lib.hid (HIA.out.below hb16)
    have xHIB := Lib.hid (HIB.out.below hb16)
    have xHIC := Lib.hid (HIC.out.below hb16)
    have xHI1 := Lib.hid (HI1.out.below hb16)
    have xHI2 := Lib.hid (HI2.out.below hb16)
    have xHI3 := Lib.hid (HI3.out.below hb16)
    have xHI4 := Lib.hid (HI4.out.below hb16)
    have xHTT := Lib.hid (HTT.out.below hb16)
    have xHK9 := Lib.hid (bt HK9.out hb16)
    clear HJA HJB HJC V1 V2 V3 V4 HIA HIB HIC HI1 HI2 HI3 HI4 HTT HK9 hb16
    have HJA := xHJA
    clear xHJA
    have HJB := xHJB
    clear xHJB
    have HJC := xHJC
    clear xHJC
    have V1 := xV1
    clear xV1
    have V2 := xV2
    clear xV2
    have V3 := xV3
    clear xV3
    have V4 := xV4
    clear xV4
    have HIA := xHIA
    clear xHIA
    have HIB := xHIB
    clear xHIB
    have HIC := xHIC
    clear xHIC
    have HI1 := xHI1
    clear xHI1
    have HI2 := xHI2
    clear xHI2
    have HI3 := xHI3
    clear xHI3
    have HI4 := xHI4
    clear xHI4
    have HTT := xHTT
    clear xHTT
    have HK9 := xHK9
    clear xHK9
    go_wp2_with fail
    refine (sane_any _ HTT.out).mono ?_
    rintro e w17 ⟨rfl, hb17⟩
    go_wp2_with fail
    go_ret
    exact ⟨rfl, bt HK9.out hb17⟩

set_option maxRecDepth 100000 in
set_option maxHeartbeats 1000000 in
theorem NumRing_long (w : World) (na nb nc : Bool) (A B C : Option Addr) (x y z cx cy cz : Nat) (hlong : ¬ (x ≤ 60 ∧ y ≤ 60 ∧ z ≤ 60)) (hT : Tens w) :
    Calls Tryd.prog 4 #[.agg #[.bool na, .slice A x cx], .agg #[.bool nb, .slice B y cy], .agg #[.bool nc, .slice C z cz]] w fun e w' => e = .returned (.bool true) ∧ Below w.heap.size w w' := by
  have HTn := Lib.hid hT
  have hsh := fun W => short_wide 60 na nb nc A B C x y z cx cy cz W (by omega) false (by rw [Bool.eq_false_iff]; intro h; simp only [Bool.and_eq_true, decide_eq_true_eq] at h; exact hlong ⟨h.1.1, h.1.2, h.2⟩)
  have HSH := Lib.hid hsh
  clear hT hsh hlong
  go_enter Tryd.func4, Tryd.ntmps4
  go_wp2_with fail
  refine (HSH.out _).mono ?_
  rintro e w2 ⟨rfl, hb2⟩
  have hb : Below w.heap.size w w2 := bt (ba (ba (ba (b0 _) _) _) _) hb2
  go_wp2_with fail
  refine (sane_any w2 (HTn.out.below hb)).mono ?_
  rintro e w3 ⟨rfl, hb3⟩
  go_wp2_with fail
  go_ret
  exact ⟨rfl, bt hb hb3⟩

set_option maxRecDepth 100000 in
set_option maxHeartbeats 2000000 in
theorem NumRing_not (w : World) (na nb nc : Bool) (A B C : Option Addr) (ca cb cc : Nat) (l k m : List Nat) (p q r : Bool) (hl : WS w A l) (hk : WS w B k) (hm : WS w C m) (hl1 : l.length ≤ 60) (hk1 : k.length ≤ 60) (hm1 : m.length ≤ 60)
    (hp : isB na l = p) (hq : isB nb k = q) (hr : isB nc m = r) (hnot : (p && q && r) = false) (hT : Tens w) :
    Calls Tryd.prog 4 #[.agg #[.bool na, .slice A l.length ca], .agg #[.bool nb, .slice B k.length cb], .agg #[.bool nc, .slice C m.length cc]] w fun e w' => e = .returned (.bool true) ∧ Below w.heap.size w w' := by
  have HTn := Lib.hid hT
  have HA := Lib.hid hp
  have HB := Lib.hid hq
  have HC := Lib.hid hr
  have HN := Lib.hid hnot
  have hsh := fun W => short_wide 60 na nb nc A B C l.length k.length m.length ca cb cc W (by omega) true (by simp [hl1, hk1, hm1])
  have HSH := Lib.hid hsh
  clear hT hp hq hr hsh hnot
  go_enter Tryd.func4, Tryd.ntmps4
  go_wp2_with fail
  obtain ⟨W1, hW1⟩ : ∃ W, W = ((w.alloc (bx na A l.length ca)).alloc (bx nb B k.length cb)).alloc (bx nc C m.length cc) := ⟨_, rfl⟩
  have Y0 : Box2 W1 w.heap.size (.bool na) (.slice A l.length ca) := by rw [hW1]; exact ((Box2.new w _ _).alloc _).alloc _
  have Y1 : Box2 W1 (w.heap.size + 1) (.bool nb) (.slice B k.length cb) := by
    rw [hW1]
    have h := (Box2.new (w.alloc (bx na A l.length ca)) (.bool nb) (.slice B k.length cb)).alloc (bx nc C m.length cc)
    rwa [World.size_alloc] at h
  have Y2 : Box2 W1 (w.heap.size + 1 + 1) (.bool nc) (.slice C m.length cc) := by
    rw [hW1]
    have h := Box2.new ((w.alloc (bx na A l.length ca)).alloc (bx nb B k.length cb)) (.bool nc) (.slice C m.length cc)
    rwa [World.size_alloc, World.size_alloc] at h
  have K1 : Below w.heap.size w W1 := by rw [hW1]; exact ba (ba (ba (b0 _) _) _) _
  change Calls _ _ _ (((w.alloc (bx na A l.length ca)).alloc (bx nb B k.length cb)).alloc (bx nc C m.length cc)) _
  rw [← hW1]
  clear hW1
  refine (HSH.out W1).mono ?_
  rintro e w2 ⟨rfl, hb2⟩
  have K2 : Below w.heap.size w w2 := bt K1 hb2
  have y0 := (Y0.below hb2).cell0
  have y1 := (Y0.below hb2).cell1
  go_wp2_with fail
  refine (RIs_any na A l.length ca l w2 rfl (by omega) (hl.below K2)).mono ?_
  rintro e w3 ⟨rfl, hb3⟩
  rw [HA.out]
  cases p
  · skip
    have K := bt K2 hb3
    clear HN
    go_wp2_with fail
    refine (sane_any w3 (HTn.out.below K)).mono ?_
    rintro e w9 ⟨rfl, hb9⟩
    go_wp2_with fail
    go_ret
    exact ⟨rfl, bt K hb9⟩
  skip
  have K3 := bt K2 hb3
  clear y0 y1
  have y0 := ((Y1.below hb2).below hb3).cell0
  have y1 := ((Y1.below hb2).below hb3).cell1
  go_wp2_with fail
  refine (RIs_any nb B k.length cb k w3 rfl (by omega) (hk.below K3)).mono ?_
  rintro e w4 ⟨rfl, hb4⟩
  rw [HB.out]
  cases q
  · skip
    have K := bt K3 hb4
    clear HN
    go_wp2_with fail
    refine (sane_any w4 (HTn.out.below K)).mono ?_
    rintro e w9 ⟨rfl, hb9⟩
    go_wp2_with fail
    go_ret
    exact ⟨rfl, bt K hb9⟩
  skip
  have K4 := bt K3 hb4
  clear y0 y1
  have y0 := (((Y2.below hb2).below hb3).below hb4).cell0
  have y1 := (((Y2.below hb2).below hb3).below hb4).cell1
  go_wp2_with fail
  refine (RIs_any nc C m.length cc m w4 rfl (by omega) (hm.below K4)).mono ?_
  rintro e w5 ⟨rfl, hb5⟩
  rw [HC.out]
  cases r
  · skip
    have K := bt K4 hb5
    clear HN
    go_wp2_with fail
    refine (sane_any w5 (HTn.out.below K)).mono ?_
    rintro e w9 ⟨rfl, hb9⟩
    go_wp2_with fail
    go_ret
    exact ⟨rfl, bt K hb9⟩
  exact absurd HN.out (by decide)

theorem NumRing_walk (w : World) (na nb nc : Bool) (A B C : Option Addr) (ca cb cc : Nat) (l k m : List Nat) (hl : WS w A l) (hk : WS w B k) (hm : WS w C m) (hca : l.length ≤ ca) (hcb : k.length ≤ cb) (hcc : m.length ≤ cc) (hT : Tens w) :
    Calls Tryd.prog 4 #[.agg #[.bool na, .slice A l.length ca], .agg #[.bool nb, .slice B k.length cb], .agg #[.bool nc, .slice C m.length cc]] w fun e w' => e = .returned (.bool true) ∧ Below w.heap.size w w' := by
  by_cases h : l.length ≤ 60 ∧ k.length ≤ 60 ∧ m.length ≤ 60
  · by_cases hc : (isB na l && isB nb k && isB nc m) = true
    · simp only [Bool.and_eq_true] at hc
      exact NumRing_look w na nb nc A B C ca cb cc l k m hl hk hm h.1 h.2.1 h.2.2 hca hcb hcc hc.1.1 hc.1.2 hc.2 hT
    · exact NumRing_not w na nb nc A B C ca cb cc l k m _ _ _ hl hk hm h.1 h.2.1 h.2.2 rfl rfl rfl (by simpa using hc) hT
  · exact NumRing_long w na nb nc A B C _ _ _ ca cb cc h hT
end Go.Proofs.YtaaipcjbmdbndaaDoor
