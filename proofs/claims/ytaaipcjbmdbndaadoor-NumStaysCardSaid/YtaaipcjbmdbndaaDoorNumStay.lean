/- NumStays: the walk. -/
import Derived.Test.YtaaipcjbmdbndaaDoorNumFx
import Derived.Test.YtaaipcjbmdbndaaDoorNumIv
import Derived.Deep.RegionHeld3
import Derived.Deep.DeepCutAuto
set_option linter.unusedSimpArgs false
set_option linter.unusedVariables false
namespace Go.Proofs.YtaaipcjbmdbndaaDoor
open Go.RowKit

/-- An integer that lies in a box, canonical or not. -/
structure CAt (W : World) (p : Nat) (n : Bool) (A : Option Addr) (c : Nat) (l : List Nat) : Prop where
  box : Box2 W p (.bool n) (.slice A l.length c)
  ws : WS W A l
theorem CAt.below {W W' : World} {p : Nat} {n : Bool} {A : Option Addr} {c : Nat} {l : List Nat} (h : CAt W p n A c l) (hb : Below W.heap.size W W') : CAt W' p n A c l := ⟨h.box.below hb, h.ws.below hb⟩
theorem CAt.new' {W : World} {p : Nat} {n : Bool} {A : Option Addr} {c : Nat} {l : List Nat} (hw : WS W A l) (hp : W.heap.size = p) : CAt (W.alloc (.cells #[.bool n, .slice A l.length c] 24)) p n A c l := ⟨Box2.new' hp, hw.below (ba (b0 _) _)⟩
theorem CAt.store' {W : World} {p : Nat} {n : Bool} {A : Option Addr} {c : Nat} {l : List Nat} (hb : Box2 W p (.bool false) (.slice none 0 0)) (hw : WS W A l) (ho : Off A l p) : CAt ((W.setCell ⟨p, 0, none⟩ (.bool n)).setCell ⟨p, 1, none⟩ (.slice A l.length c)) p n A c l := ⟨(hb.set0 _).set1 _, hw.two ho _ _⟩
theorem CAt.alloc {W : World} {p : Nat} {n : Bool} {A : Option Addr} {c : Nat} {l : List Nat} (h : CAt W p n A c l) (o : Obj) : CAt (W.alloc o) p n A c l := h.below (ba (b0 _) _)
theorem CAt.far {W : World} {p q : Nat} {n : Bool} {A : Option Addr} {c : Nat} {l : List Nat} (h : CAt W p n A c l) (hne : p ≠ q) (ho : Off A l q) (x y : Value) : CAt ((W.setCell ⟨q, 0, none⟩ x).setCell ⟨q, 1, none⟩ y) p n A c l := ⟨box2_far h.box hne x y, h.ws.two ho _ _⟩
/-- Where two copies lie. -/
def CopiesAt (w : World) (na nb : Bool) (l k : List Nat) (s t : Value) (W : World) : Prop :=
  ∃ p q A c B d, s = .pointer (some ⟨p, 0, none⟩) ∧ t = .pointer (some ⟨q, 0, none⟩) ∧ CAt W p na A c l ∧ CAt W q nb B d k ∧ Below w.heap.size w W
theorem Stays_same {w : World} {n : Bool} {A B : Option Addr} {c d : Nat} {l : List Nat} (h : WS w A l) (h2 : WS w B l) (hm : l.length ≤ 20) :
    Calls Tryd.prog 35 #[.agg #[.bool n, .slice A l.length c], .agg #[.bool n, .slice B l.length d]] w fun e w' => e = .returned (.bool true) ∧ Below w.heap.size w w' := by
  refine (RStays_any n n A B l.length c l.length d l l w rfl rfl (by omega) (by omega) h h2).mono fun e w' h => ⟨?_, h.2⟩
  rw [h.1]; simp

set_option maxRecDepth 100000 in
set_option maxHeartbeats 40000000 in
theorem NumStays_a (w : World) (na nb : Bool) (A B : Option Addr) (ca cb : Nat) (l k : List Nat) (x : Int) (hl : WS w A l) (hk : WS w B k) (hca : l.length ≤ ca) (hcb : k.length ≤ cb) (hT : Tens w) (h : 20 < l.length) : Calls Tryd.prog 8 #[.agg #[.bool na, .slice A l.length ca], .agg #[.bool nb, .slice B k.length cb], .int .i64 x] w fun e w' => e = .returned (.bool true) ∧ Below w.heap.size w w' := by
  have h1 : (20 : Int) < (l.length : Int) := by omega
  have HT := Lib.hid hT
  clear hT hl hk
  go_enter Tryd.func8, Tryd.ntmps8
  go_wp2_with fail
  refine (sane_any _ (HT.out.below (ba (ba (b0 _) _) _))).mono ?_
  rintro e w2 ⟨rfl, hb2⟩
  go_wp2_with fail
  go_ret
  exact ⟨rfl, bt (ba (ba (b0 _) _) _) hb2⟩
set_option maxRecDepth 100000 in
set_option maxHeartbeats 40000000 in
theorem NumStays_b (w : World) (na nb : Bool) (A B : Option Addr) (ca cb : Nat) (l k : List Nat) (x : Int) (hl : WS w A l) (hk : WS w B k) (hca : l.length ≤ ca) (hcb : k.length ≤ cb) (hT : Tens w) (h0 : l.length ≤ 20) (h : 20 < k.length) : Calls Tryd.prog 8 #[.agg #[.bool na, .slice A l.length ca], .agg #[.bool nb, .slice B k.length cb], .int .i64 x] w fun e w' => e = .returned (.bool true) ∧ Below w.heap.size w w' := by
  have h1 : ¬ (20 : Int) < (l.length : Int) := by omega
  have h2 : (20 : Int) < (k.length : Int) := by omega
  have HT := Lib.hid hT
  clear hT hl hk
  go_enter Tryd.func8, Tryd.ntmps8
  go_wp2_with fail
  refine (sane_any _ (HT.out.below (ba (ba (b0 _) _) _))).mono ?_
  rintro e w2 ⟨rfl, hb2⟩
  go_wp2_with fail
  go_ret
  exact ⟨rfl, bt (ba (ba (b0 _) _) _) hb2⟩
set_option maxRecDepth 100000 in
set_option maxHeartbeats 40000000 in
theorem NumStays_c (w : World) (na nb : Bool) (A B : Option Addr) (ca cb : Nat) (l k : List Nat) (x : Int) (hl : WS w A l) (hk : WS w B k) (hca : l.length ≤ ca) (hcb : k.length ≤ cb) (hT : Tens w) (h0 : l.length ≤ 20) (h3 : k.length ≤ 20) (h : x < -5) : Calls Tryd.prog 8 #[.agg #[.bool na, .slice A l.length ca], .agg #[.bool nb, .slice B k.length cb], .int .i64 x] w fun e w' => e = .returned (.bool true) ∧ Below w.heap.size w w' := by
  have h1 : ¬ (20 : Int) < (l.length : Int) := by omega
  have h2 : ¬ (20 : Int) < (k.length : Int) := by omega
  have HT := Lib.hid hT
  clear hT hl hk
  go_enter Tryd.func8, Tryd.ntmps8
  go_wp2_with fail
  refine (sane_any _ (HT.out.below (ba (ba (b0 _) _) _))).mono ?_
  rintro e w2 ⟨rfl, hb2⟩
  go_wp2_with fail
  go_ret
  exact ⟨rfl, bt (ba (ba (b0 _) _) _) hb2⟩
set_option maxRecDepth 100000 in
set_option maxHeartbeats 40000000 in
theorem NumStays_d (w : World) (na nb : Bool) (A B : Option Addr) (ca cb : Nat) (l k : List Nat) (x : Int) (hl : WS w A l) (hk : WS w B k) (hca : l.length ≤ ca) (hcb : k.length ≤ cb) (hT : Tens w) (h0 : l.length ≤ 20) (h3 : k.length ≤ 20) (h4 : ¬ x < -5) (h : 20 < x) : Calls Tryd.prog 8 #[.agg #[.bool na, .slice A l.length ca], .agg #[.bool nb, .slice B k.length cb], .int .i64 x] w fun e w' => e = .returned (.bool true) ∧ Below w.heap.size w w' := by
  have h1 : ¬ (20 : Int) < (l.length : Int) := by omega
  have h2 : ¬ (20 : Int) < (k.length : Int) := by omega
  have HT := Lib.hid hT
  clear hT hl hk
  go_enter Tryd.func8, Tryd.ntmps8
  go_wp2_with fail
  refine (sane_any _ (HT.out.below (ba (ba (b0 _) _) _))).mono ?_
  rintro e w2 ⟨rfl, hb2⟩
  go_wp2_with fail
  go_ret
  exact ⟨rfl, bt (ba (ba (b0 _) _) _) hb2⟩
set_option maxRecDepth 100000 in
set_option maxHeartbeats 40000000 in
theorem NumStays_main (w : World) (na nb : Bool) (A B : Option Addr) (ca cb : Nat) (l k : List Nat) (x : Int) (hl : WS w A l) (hk : WS w B k) (hca : l.length ≤ ca) (hcb : k.length ≤ cb) (hT : Tens w) (h0 : l.length ≤ 20) (h3 : k.length ≤ 20) (h4 : ¬ x < -5) (h5 : ¬ 20 < x) : Calls Tryd.prog 8 #[.agg #[.bool na, .slice A l.length ca], .agg #[.bool nb, .slice B k.length cb], .int .i64 x] w fun e w' => e = .returned (.bool true) ∧ Below w.heap.size w w' := by
  have h1 : ¬ (20 : Int) < (l.length : Int) := by omega
  have h2 : ¬ (20 : Int) < (k.length : Int) := by omega
  have HT := Lib.hid hT
  clear hT
  go_enter Tryd.func8, Tryd.ntmps8
  go_upto_region 3 with fail
  obtain ⟨W1, hW1⟩ : ∃ W, W = (w.alloc (.cells #[.bool na, .slice A l.length ca] 24)).alloc (.cells #[.bool nb, .slice B k.length cb] 24) := ⟨_, rfl⟩
  have Z0 : Box2 W1 w.heap.size (.bool na) (.slice A l.length ca) := by rw [hW1]; exact (Box2.new w _ _).alloc _
  have Z1 : Box2 W1 (w.heap.size + 1) (.bool nb) (.slice B k.length cb) := by
    rw [hW1]
    have h := Box2.new (w.alloc (.cells #[.bool na, .slice A l.length ca] 24)) (.bool nb) (.slice B k.length cb)
    rwa [World.size_alloc] at h
  have K1 : Below w.heap.size w W1 := by rw [hW1]; exact ba (ba (b0 _) _) _
  rw [← hW1]
  clear hW1
  have sz1 := Z1.lt
  have HA := Lib.hid (show AR W1 A ca l from ⟨hca, hl.below K1, h0⟩)
  have HB := Lib.hid (show AR W1 B cb k from ⟨hcb, hk.below K1, h3⟩)
  have HZ0 := Lib.hid Z0
  have HZ1 := Lib.hid Z1
  have HTT := Lib.hid (HT.out.below K1)
  have HK := Lib.hid K1
  clear Z0 Z1 K1 HT hl hk hca hcb
  go_cut [7, 8] (fun s t wx => CopiesAt W1 na nb l k s t wx)
  case first =>
    as_aux_lemma =>
    have HS5 : Hid (∀ W, Below W1.heap.size W1 W → W.cell? ⟨w.heap.size, 0, none⟩ = some (.bool na) ∧ W.cell? ⟨w.heap.size, 1, none⟩ = some (.slice A l.length ca) ∧ W.cell? ⟨w.heap.size + 1, 0, none⟩ = some (.bool nb) ∧ W.cell? ⟨w.heap.size + 1, 1, none⟩ = some (.slice B k.length cb)) := fun W hb => ⟨(HZ0.out.below hb).cell0, (HZ0.out.below hb).cell1, (HZ1.out.below hb).cell0, (HZ1.out.below hb).cell1⟩
    have tokC : True := trivial
    go_region_held3 (fun W => W.cell? ⟨w.heap.size, 0, none⟩ = some (.bool na) ∧ W.cell? ⟨w.heap.size, 1, none⟩ = some (.slice A l.length ca) ∧ W.cell? ⟨w.heap.size + 1, 0, none⟩ = some (.bool nb) ∧ W.cell? ⟨w.heap.size + 1, 1, none⟩ = some (.slice B k.length cb))
      ((refine HS5.out _ ?_; (repeat (first | assumption | exact b0 _ | apply ba | apply bd | apply bw | (refine bs ?_ (by first | exact Nat.le_refl _ | (dsimp only; omega) | omega) _)))))
      (first
      | (go_at_call 31; clear tokC; refine (Clone_any _ na A l.length ca l rfl (by omega) (HA.out.ws.below (by repeat (first | assumption | exact b0 _ | apply ba | apply bd | apply bw)))).mono ?_; rintro e w20 ⟨B20, d20, rfl, hw20, o20, p20, hb20⟩; obtain ⟨hcc20, hff20⟩ := bcell hb20; have R20 := Lib.hid hw20; have O20 := Lib.hid o20; have P20 := Lib.hid p20; clear hw20 o20 p20; have hK20 : Below W1.heap.size W1 w20 := bt (by repeat (first | assumption | exact b0 _ | apply ba | apply bd | apply bw)) hb20; have sz20 := hK20.size; have sy20 := hb20.size; (try simp at sy20); (try have sw20 : W1.heap.size < w20.heap.size := by omega); (try have sv20 : W1.heap.size + 1 < w20.heap.size := by omega))
      | (go_at_call 31; refine (Clone_any _ nb B k.length cb k rfl (by omega) (HB.out.ws.below (bt hK20 (by repeat (first | assumption | exact b0 _ | apply ba | apply bd | apply bw))))).mono ?_; rintro e w21 ⟨B21, d21, rfl, hw21, o21, p21, hb21⟩; obtain ⟨hcc21, hff21⟩ := bcell hb21; have R21 := Lib.hid hw21; have O21 := Lib.hid o21; have P21 := Lib.hid p21; clear hw21 o21 p21; have hb2021 : Below w20.heap.size w20 w21 := bt (by repeat (first | assumption | exact b0 _ | apply ba | apply bd | apply bw)) hb21; have hK21 := bt hK20 hb2021; have sz21 := hK21.size; have sx21 := hb2021.size; have sy21 := hb21.size; (try simp at sy21); (try have sw21 : w20.heap.size < w21.heap.size := by omega); (try have sv21 : w20.heap.size + 1 < w21.heap.size := by omega); (try have su21 : W1.heap.size < w21.heap.size := by omega); (try have st21 : W1.heap.size + 1 < w21.heap.size := by omega)))
    all_goals (go_wp2_with fail; go_meet)
    all_goals
      have hw20 := R20.out
      have hw21 := R21.out
      have g20 := O20.out
      have g21 := O21.out
      have G20 := P20.out
      have G21 := P21.out
      refine ⟨_, _, B20, d20, B21, d21, rfl, rfl, ?_, ?_, ?_⟩
      · repeat (first
          | (with_reducible refine CAt.new' ?_ ?_)
          | (with_reducible refine CAt.store' ?_ ?_ ?_)
          | (with_reducible refine CAt.alloc ?_ _)
          | (with_reducible refine CAt.far ?_ ?_ ?_ _ _))
        all_goals (repeat (first
          | with_reducible exact hw20
          | (with_reducible refine WS.below ?_ (ba (b0 _) _))
          | (with_reducible refine WS.below ?_ hb21)
          | (with_reducible refine WS.two ?_ ?_ _ _)
          | (focus ((with_reducible refine Box2.new' ?_); (simp; done)))
          | (with_reducible refine Box2.alloc ?_ _)
          | (with_reducible refine Box2.far ?_ ?_ _ _)
          | (with_reducible refine Box2.below ?_ hb21)
          | (with_reducible refine Box2.below ?_ hb20)
          | exact g20 _ (by first | (simp; done) | (simp; omega) | omega)
          | exact G20 _ (by first | (simp; done) | (simp; omega) | omega)
          | omega
          | (focus (simp; done))
          | (with_reducible refine Box2.drew' ?_)))
      · repeat (first
          | (with_reducible refine CAt.new' ?_ ?_)
          | (with_reducible refine CAt.store' ?_ ?_ ?_)
          | (with_reducible refine CAt.alloc ?_ _)
          | (with_reducible refine CAt.far ?_ ?_ ?_ _ _))
        all_goals (repeat (first
          | with_reducible exact hw21
          | (with_reducible refine WS.below ?_ (ba (b0 _) _))
          | (with_reducible refine WS.below ?_ hb21)
          | (with_reducible refine WS.two ?_ ?_ _ _)
          | (focus ((with_reducible refine Box2.new' ?_); (simp; done)))
          | (with_reducible refine Box2.alloc ?_ _)
          | (with_reducible refine Box2.far ?_ ?_ _ _)
          | (with_reducible refine Box2.below ?_ hb21)
          | (with_reducible refine Box2.below ?_ hb20)
          | exact g21 _ (by first | (simp; done) | (simp; omega) | omega)
          | exact G21 _ (by first | (simp; done) | (simp; omega) | omega)
          | omega
          | (focus (simp; done))
          | (with_reducible refine Box2.drew' ?_)))
      · repeat (first | exact hK21 | (with_reducible refine ba ?_ _) | (with_reducible refine bs ?_ ?_ _))
        all_goals (first | exact Nat.le_refl _ | (dsimp only; omega) | omega)
  case rest =>
  obtain ⟨p, q, A1, c1, B1, d1, rfl, rfl, I1, I2, hb2⟩ := hcut
  obtain ⟨w2, hw2⟩ : ∃ v, v = wc := ⟨_, rfl⟩
  rw [← hw2] at I1 I2 hb2 ⊢
  clear hw2 wc
  have HC1 := Lib.hid I1
  have HC2 := Lib.hid I2
  clear I1 I2
  have xHA := Lib.hid (HA.out.below hb2)
  clear HA
  have HA := xHA
  clear xHA
  have xHB := Lib.hid (HB.out.below hb2)
  clear HB
  have HB := xHB
  clear xHB
  have xHZ0 := Lib.hid (HZ0.out.below hb2)
  clear HZ0
  have HZ0 := xHZ0
  clear xHZ0
  have xHZ1 := Lib.hid (HZ1.out.below hb2)
  clear HZ1
  have HZ1 := xHZ1
  clear xHZ1
  have xHTT := Lib.hid (HTT.out.below hb2)
  clear HTT
  have HTT := xHTT
  clear xHTT
  have xHK := Lib.hid (bt HK.out hb2)
  clear HK
  have HK := xHK
  clear xHK
  clear hb2
  have a0 := HZ0.out.cell0
  have a1 := HZ0.out.cell1
  have b0' := HZ1.out.cell0
  have b1' := HZ1.out.cell1
  go_wp2_with fail
  refine (Is_fx HA.out).mono ?_
  rintro e w3 ⟨⟨v3, rfl⟩, hb3⟩
  clear a0 a1 b0' b1'
  have xHA := Lib.hid (HA.out.below hb3)
  clear HA
  have HA := xHA
  clear xHA
  have xHB := Lib.hid (HB.out.below hb3)
  clear HB
  have HB := xHB
  clear xHB
  have xHZ0 := Lib.hid (HZ0.out.below hb3)
  clear HZ0
  have HZ0 := xHZ0
  clear xHZ0
  have xHZ1 := Lib.hid (HZ1.out.below hb3)
  clear HZ1
  have HZ1 := xHZ1
  clear xHZ1
  have xHTT := Lib.hid (HTT.out.below hb3)
  clear HTT
  have HTT := xHTT
  clear xHTT
  have xHK := Lib.hid (bt HK.out hb3)
  clear HK
  have HK := xHK
  clear xHK
  have xHC1 := Lib.hid (HC1.out.below hb3)
  clear HC1
  have HC1 := xHC1
  clear xHC1
  have xHC2 := Lib.hid (HC2.out.below hb3)
  clear HC2
  have HC2 := xHC2
  clear xHC2
  clear hb3
  have a0 := HZ0.out.cell0
  have a1 := HZ0.out.cell1
  have b0' := HZ1.out.cell0
  have b1' := HZ1.out.cell1
  go_wp2_with fail
  refine (Small_fx HA.out).mono ?_
  rintro e w4 ⟨⟨v4, rfl⟩, hb4⟩
  clear a0 a1 b0' b1'
  have xHA := Lib.hid (HA.out.below hb4)
  clear HA
  have HA := xHA
  clear xHA
  have xHB := Lib.hid (HB.out.below hb4)
  clear HB
  have HB := xHB
  clear xHB
  have xHZ0 := Lib.hid (HZ0.out.below hb4)
  clear HZ0
  have HZ0 := xHZ0
  clear xHZ0
  have xHZ1 := Lib.hid (HZ1.out.below hb4)
  clear HZ1
  have HZ1 := xHZ1
  clear xHZ1
  have xHTT := Lib.hid (HTT.out.below hb4)
  clear HTT
  have HTT := xHTT
  clear xHTT
  have xHK := Lib.hid (bt HK.out hb4)
  clear HK
  have HK := xHK
  clear xHK
  have xHC1 := Lib.hid (HC1.out.below hb4)
  clear HC1
  have HC1 := xHC1
  clear xHC1
  have xHC2 := Lib.hid (HC2.out.below hb4)
  clear HC2
  have HC2 := xHC2
  clear xHC2
  clear hb4
  have a0 := HZ0.out.cell0
  have a1 := HZ0.out.cell1
  have b0' := HZ1.out.cell0
  have b1' := HZ1.out.cell1
  go_wp2_with fail
  refine (Bits_fx HA.out).mono ?_
  rintro e w5 ⟨⟨v5, rfl⟩, hb5⟩
  clear a0 a1 b0' b1'
  have xHA := Lib.hid (HA.out.below hb5)
  clear HA
  have HA := xHA
  clear xHA
  have xHB := Lib.hid (HB.out.below hb5)
  clear HB
  have HB := xHB
  clear xHB
  have xHZ0 := Lib.hid (HZ0.out.below hb5)
  clear HZ0
  have HZ0 := xHZ0
  clear xHZ0
  have xHZ1 := Lib.hid (HZ1.out.below hb5)
  clear HZ1
  have HZ1 := xHZ1
  clear xHZ1
  have xHTT := Lib.hid (HTT.out.below hb5)
  clear HTT
  have HTT := xHTT
  clear xHTT
  have xHK := Lib.hid (bt HK.out hb5)
  clear HK
  have HK := xHK
  clear xHK
  have xHC1 := Lib.hid (HC1.out.below hb5)
  clear HC1
  have HC1 := xHC1
  clear xHC1
  have xHC2 := Lib.hid (HC2.out.below hb5)
  clear HC2
  have HC2 := xHC2
  clear xHC2
  clear hb5
  have a0 := HZ0.out.cell0
  have a1 := HZ0.out.cell1
  have b0' := HZ1.out.cell0
  have b1' := HZ1.out.cell1
  go_wp2_with fail
  refine (Sign_fx HA.out).mono ?_
  rintro e w6 ⟨⟨v6, rfl⟩, hb6⟩
  clear a0 a1 b0' b1'
  have xHA := Lib.hid (HA.out.below hb6)
  clear HA
  have HA := xHA
  clear xHA
  have xHB := Lib.hid (HB.out.below hb6)
  clear HB
  have HB := xHB
  clear xHB
  have xHZ0 := Lib.hid (HZ0.out.below hb6)
  clear HZ0
  have HZ0 := xHZ0
  clear xHZ0
  have xHZ1 := Lib.hid (HZ1.out.below hb6)
  clear HZ1
  have HZ1 := xHZ1
  clear xHZ1
  have xHTT := Lib.hid (HTT.out.below hb6)
  clear HTT
  have HTT := xHTT
  clear xHTT
  have xHK := Lib.hid (bt HK.out hb6)
  clear HK
  have HK := xHK
  clear xHK
  have xHC1 := Lib.hid (HC1.out.below hb6)
  clear HC1
  have HC1 := xHC1
  clear xHC1
  have xHC2 := Lib.hid (HC2.out.below hb6)
  clear HC2
  have HC2 := xHC2
  clear xHC2
  clear hb6
  have a0 := HZ0.out.cell0
  have a1 := HZ0.out.cell1
  have b0' := HZ1.out.cell0
  have b1' := HZ1.out.cell1
  go_wp2_with fail
  refine (Cmp_fx HA.out HB.out).mono ?_
  rintro e w7 ⟨⟨v7, rfl⟩, hb7⟩
  clear a0 a1 b0' b1'
  have xHA := Lib.hid (HA.out.below hb7)
  clear HA
  have HA := xHA
  clear xHA
  have xHB := Lib.hid (HB.out.below hb7)
  clear HB
  have HB := xHB
  clear xHB
  have xHZ0 := Lib.hid (HZ0.out.below hb7)
  clear HZ0
  have HZ0 := xHZ0
  clear xHZ0
  have xHZ1 := Lib.hid (HZ1.out.below hb7)
  clear HZ1
  have HZ1 := xHZ1
  clear xHZ1
  have xHTT := Lib.hid (HTT.out.below hb7)
  clear HTT
  have HTT := xHTT
  clear xHTT
  have xHK := Lib.hid (bt HK.out hb7)
  clear HK
  have HK := xHK
  clear xHK
  have xHC1 := Lib.hid (HC1.out.below hb7)
  clear HC1
  have HC1 := xHC1
  clear xHC1
  have xHC2 := Lib.hid (HC2.out.below hb7)
  clear HC2
  have HC2 := xHC2
  clear xHC2
  clear hb7
  have a0 := HZ0.out.cell0
  have a1 := HZ0.out.cell1
  have b0' := HZ1.out.cell0
  have b1' := HZ1.out.cell1
  go_wp2_with fail
  refine (Neg_fx HA.out).mono ?_
  rintro e w8 ⟨⟨v8, rfl⟩, hb8⟩
  clear a0 a1 b0' b1'
  have xHA := Lib.hid (HA.out.below hb8)
  clear HA
  have HA := xHA
  clear xHA
  have xHB := Lib.hid (HB.out.below hb8)
  clear HB
  have HB := xHB
  clear xHB
  have xHZ0 := Lib.hid (HZ0.out.below hb8)
  clear HZ0
  have HZ0 := xHZ0
  clear xHZ0
  have xHZ1 := Lib.hid (HZ1.out.below hb8)
  clear HZ1
  have HZ1 := xHZ1
  clear xHZ1
  have xHTT := Lib.hid (HTT.out.below hb8)
  clear HTT
  have HTT := xHTT
  clear xHTT
  have xHK := Lib.hid (bt HK.out hb8)
  clear HK
  have HK := xHK
  clear xHK
  have xHC1 := Lib.hid (HC1.out.below hb8)
  clear HC1
  have HC1 := xHC1
  clear xHC1
  have xHC2 := Lib.hid (HC2.out.below hb8)
  clear HC2
  have HC2 := xHC2
  clear xHC2
  clear hb8
  have a0 := HZ0.out.cell0
  have a1 := HZ0.out.cell1
  have b0' := HZ1.out.cell0
  have b1' := HZ1.out.cell1
  go_wp2_with fail
  refine (Abs_fx HA.out).mono ?_
  rintro e w9 ⟨⟨v9, rfl⟩, hb9⟩
  clear a0 a1 b0' b1'
  have xHA := Lib.hid (HA.out.below hb9)
  clear HA
  have HA := xHA
  clear xHA
  have xHB := Lib.hid (HB.out.below hb9)
  clear HB
  have HB := xHB
  clear xHB
  have xHZ0 := Lib.hid (HZ0.out.below hb9)
  clear HZ0
  have HZ0 := xHZ0
  clear xHZ0
  have xHZ1 := Lib.hid (HZ1.out.below hb9)
  clear HZ1
  have HZ1 := xHZ1
  clear xHZ1
  have xHTT := Lib.hid (HTT.out.below hb9)
  clear HTT
  have HTT := xHTT
  clear xHTT
  have xHK := Lib.hid (bt HK.out hb9)
  clear HK
  have HK := xHK
  clear xHK
  have xHC1 := Lib.hid (HC1.out.below hb9)
  clear HC1
  have HC1 := xHC1
  clear xHC1
  have xHC2 := Lib.hid (HC2.out.below hb9)
  clear HC2
  have HC2 := xHC2
  clear xHC2
  clear hb9
  have a0 := HZ0.out.cell0
  have a1 := HZ0.out.cell1
  have b0' := HZ1.out.cell0
  have b1' := HZ1.out.cell1
  go_wp2_with fail
  refine (Add_fx HA.out HB.out).mono ?_
  rintro e w10 ⟨⟨v10, rfl⟩, hb10⟩
  clear a0 a1 b0' b1'
  have xHA := Lib.hid (HA.out.below hb10)
  clear HA
  have HA := xHA
  clear xHA
  have xHB := Lib.hid (HB.out.below hb10)
  clear HB
  have HB := xHB
  clear xHB
  have xHZ0 := Lib.hid (HZ0.out.below hb10)
  clear HZ0
  have HZ0 := xHZ0
  clear xHZ0
  have xHZ1 := Lib.hid (HZ1.out.below hb10)
  clear HZ1
  have HZ1 := xHZ1
  clear xHZ1
  have xHTT := Lib.hid (HTT.out.below hb10)
  clear HTT
  have HTT := xHTT
  clear xHTT
  have xHK := Lib.hid (bt HK.out hb10)
  clear HK
  have HK := xHK
  clear xHK
  have xHC1 := Lib.hid (HC1.out.below hb10)
  clear HC1
  have HC1 := xHC1
  clear xHC1
  have xHC2 := Lib.hid (HC2.out.below hb10)
  clear HC2
  have HC2 := xHC2
  clear xHC2
  clear hb10
  have a0 := HZ0.out.cell0
  have a1 := HZ0.out.cell1
  have b0' := HZ1.out.cell0
  have b1' := HZ1.out.cell1
  go_wp2_with fail
  refine (Sub_fx HA.out HB.out).mono ?_
  rintro e w11 ⟨⟨v11, rfl⟩, hb11⟩
  clear a0 a1 b0' b1'
  have xHA := Lib.hid (HA.out.below hb11)
  clear HA
  have HA := xHA
  clear xHA
  have xHB := Lib.hid (HB.out.below hb11)
  clear HB
  have HB := xHB
  clear xHB
  have xHZ0 := Lib.hid (HZ0.out.below hb11)
  clear HZ0
  have HZ0 := xHZ0
  clear xHZ0
  have xHZ1 := Lib.hid (HZ1.out.below hb11)
  clear HZ1
  have HZ1 := xHZ1
  clear xHZ1
  have xHTT := Lib.hid (HTT.out.below hb11)
  clear HTT
  have HTT := xHTT
  clear xHTT
  have xHK := Lib.hid (bt HK.out hb11)
  clear HK
  have HK := xHK
  clear xHK
  have xHC1 := Lib.hid (HC1.out.below hb11)
  clear HC1
  have HC1 := xHC1
  clear xHC1
  have xHC2 := Lib.hid (HC2.out.below hb11)
  clear HC2
  have HC2 := xHC2
  clear xHC2
  clear hb11
  have a0 := HZ0.out.cell0
  have a1 := HZ0.out.cell1
  have b0' := HZ1.out.cell0
  have b1' := HZ1.out.cell1
  go_wp2_with fail
  refine (Mul_fx HA.out HB.out).mono ?_
  rintro e w12 ⟨⟨v12, rfl⟩, hb12⟩
  clear a0 a1 b0' b1'
  have xHA := Lib.hid (HA.out.below hb12)
  clear HA
  have HA := xHA
  clear xHA
  have xHB := Lib.hid (HB.out.below hb12)
  clear HB
  have HB := xHB
  clear xHB
  have xHZ0 := Lib.hid (HZ0.out.below hb12)
  clear HZ0
  have HZ0 := xHZ0
  clear xHZ0
  have xHZ1 := Lib.hid (HZ1.out.below hb12)
  clear HZ1
  have HZ1 := xHZ1
  clear xHZ1
  have xHTT := Lib.hid (HTT.out.below hb12)
  clear HTT
  have HTT := xHTT
  clear xHTT
  have xHK := Lib.hid (bt HK.out hb12)
  clear HK
  have HK := xHK
  clear xHK
  have xHC1 := Lib.hid (HC1.out.below hb12)
  clear HC1
  have HC1 := xHC1
  clear xHC1
  have xHC2 := Lib.hid (HC2.out.below hb12)
  clear HC2
  have HC2 := xHC2
  clear xHC2
  clear hb12
  have a0 := HZ0.out.cell0
  have a1 := HZ0.out.cell1
  have b0' := HZ1.out.cell0
  have b1' := HZ1.out.cell1
  go_wp2_with fail
  refine (Div_fx HA.out HB.out).mono ?_
  rintro e w13 ⟨⟨v13, rfl⟩, hb13⟩
  clear a0 a1 b0' b1'
  have xHA := Lib.hid (HA.out.below hb13)
  clear HA
  have HA := xHA
  clear xHA
  have xHB := Lib.hid (HB.out.below hb13)
  clear HB
  have HB := xHB
  clear xHB
  have xHZ0 := Lib.hid (HZ0.out.below hb13)
  clear HZ0
  have HZ0 := xHZ0
  clear xHZ0
  have xHZ1 := Lib.hid (HZ1.out.below hb13)
  clear HZ1
  have HZ1 := xHZ1
  clear xHZ1
  have xHTT := Lib.hid (HTT.out.below hb13)
  clear HTT
  have HTT := xHTT
  clear xHTT
  have xHK := Lib.hid (bt HK.out hb13)
  clear HK
  have HK := xHK
  clear xHK
  have xHC1 := Lib.hid (HC1.out.below hb13)
  clear HC1
  have HC1 := xHC1
  clear xHC1
  have xHC2 := Lib.hid (HC2.out.below hb13)
  clear HC2
  have HC2 := xHC2
  clear xHC2
  clear hb13
  have a0 := HZ0.out.cell0
  have a1 := HZ0.out.cell1
  have b0' := HZ1.out.cell0
  have b1' := HZ1.out.cell1
  go_wp2_with fail
  refine (Pow_fx HA.out (by omega)).mono ?_
  rintro e w14 ⟨⟨v14, rfl⟩, hb14⟩
  clear a0 a1 b0' b1'
  have xHA := Lib.hid (HA.out.below hb14)
  clear HA
  have HA := xHA
  clear xHA
  have xHB := Lib.hid (HB.out.below hb14)
  clear HB
  have HB := xHB
  clear xHB
  have xHZ0 := Lib.hid (HZ0.out.below hb14)
  clear HZ0
  have HZ0 := xHZ0
  clear xHZ0
  have xHZ1 := Lib.hid (HZ1.out.below hb14)
  clear HZ1
  have HZ1 := xHZ1
  clear xHZ1
  have xHTT := Lib.hid (HTT.out.below hb14)
  clear HTT
  have HTT := xHTT
  clear xHTT
  have xHK := Lib.hid (bt HK.out hb14)
  clear HK
  have HK := xHK
  clear xHK
  have xHC1 := Lib.hid (HC1.out.below hb14)
  clear HC1
  have HC1 := xHC1
  clear xHC1
  have xHC2 := Lib.hid (HC2.out.below hb14)
  clear HC2
  have HC2 := xHC2
  clear xHC2
  clear hb14
  have a0 := HZ0.out.cell0
  have a1 := HZ0.out.cell1
  have b0' := HZ1.out.cell0
  have b1' := HZ1.out.cell1
  go_wp2_with fail
  refine (Gcd_fx HA.out HB.out).mono ?_
  rintro e w15 ⟨⟨v15, rfl⟩, hb15⟩
  clear a0 a1 b0' b1'
  have xHA := Lib.hid (HA.out.below hb15)
  clear HA
  have HA := xHA
  clear xHA
  have xHB := Lib.hid (HB.out.below hb15)
  clear HB
  have HB := xHB
  clear xHB
  have xHZ0 := Lib.hid (HZ0.out.below hb15)
  clear HZ0
  have HZ0 := xHZ0
  clear xHZ0
  have xHZ1 := Lib.hid (HZ1.out.below hb15)
  clear HZ1
  have HZ1 := xHZ1
  clear xHZ1
  have xHTT := Lib.hid (HTT.out.below hb15)
  clear HTT
  have HTT := xHTT
  clear xHTT
  have xHK := Lib.hid (bt HK.out hb15)
  clear HK
  have HK := xHK
  clear xHK
  have xHC1 := Lib.hid (HC1.out.below hb15)
  clear HC1
  have HC1 := xHC1
  clear xHC1
  have xHC2 := Lib.hid (HC2.out.below hb15)
  clear HC2
  have HC2 := xHC2
  clear xHC2
  clear hb15
  have a0 := HZ0.out.cell0
  have a1 := HZ0.out.cell1
  have b0' := HZ1.out.cell0
  have b1' := HZ1.out.cell1
  go_wp2_with fail
  refine (Bezout_fx HA.out HB.out).mono ?_
  rintro e w16 ⟨⟨v16, rfl⟩, hb16⟩
  clear a0 a1 b0' b1'
  have xHA := Lib.hid (HA.out.below hb16)
  clear HA
  have HA := xHA
  clear xHA
  have xHB := Lib.hid (HB.out.below hb16)
  clear HB
  have HB := xHB
  clear xHB
  have xHZ0 := Lib.hid (HZ0.out.below hb16)
  clear HZ0
  have HZ0 := xHZ0
  clear xHZ0
  have xHZ1 := Lib.hid (HZ1.out.below hb16)
  clear HZ1
  have HZ1 := xHZ1
  clear xHZ1
  have xHTT := Lib.hid (HTT.out.below hb16)
  clear HTT
  have HTT := xHTT
  clear xHTT
  have xHK := Lib.hid (bt HK.out hb16)
  clear HK
  have HK := xHK
  clear xHK
  have xHC1 := Lib.hid (HC1.out.below hb16)
  clear HC1
  have HC1 := xHC1
  clear xHC1
  have xHC2 := Lib.hid (HC2.out.below hb16)
  clear HC2
  have HC2 := xHC2
  clear xHC2
  clear hb16
  have a0 := HZ0.out.cell0
  have a1 := HZ0.out.cell1
  have b0' := HZ1.out.cell0
  have b1' := HZ1.out.cell1
  go_wp2_with fail
  refine (Sqrt_fx HA.out).mono ?_
  rintro e w17 ⟨⟨v17, rfl⟩, hb17⟩
  clear a0 a1 b0' b1'
  have xHA := Lib.hid (HA.out.below hb17)
  clear HA
  have HA := xHA
  clear xHA
  have xHB := Lib.hid (HB.out.below hb17)
  clear HB
  have HB := xHB
  clear xHB
  have xHZ0 := Lib.hid (HZ0.out.below hb17)
  clear HZ0
  have HZ0 := xHZ0
  clear xHZ0
  have xHZ1 := Lib.hid (HZ1.out.below hb17)
  clear HZ1
  have HZ1 := xHZ1
  clear xHZ1
  have xHTT := Lib.hid (HTT.out.below hb17)
  clear HTT
  have HTT := xHTT
  clear xHTT
  have xHK := Lib.hid (bt HK.out hb17)
  clear HK
  have HK := xHK
  clear xHK
  have xHC1 := Lib.hid (HC1.out.below hb17)
  clear HC1
  have HC1 := xHC1
  clear xHC1
  have xHC2 := Lib.hid (HC2.out.below hb17)
  clear HC2
  have HC2 := xHC2
  clear xHC2
  clear hb17
  have a0 := HZ0.out.cell0
  have a1 := HZ0.out.cell1
  have b0' := HZ1.out.cell0
  have b1' := HZ1.out.cell1
  go_wp2_with fail
  refine (Print_fx HA.out HTT.out).mono ?_
  rintro e w18 ⟨⟨v18, rfl⟩, hb18⟩
  clear a0 a1 b0' b1'
  have xHA := Lib.hid (HA.out.below hb18)
  clear HA
  have HA := xHA
  clear xHA
  have xHB := Lib.hid (HB.out.below hb18)
  clear HB
  have HB := xHB
  clear xHB
  have xHZ0 := Lib.hid (HZ0.out.below hb18)
  clear HZ0
  have HZ0 := xHZ0
  clear xHZ0
  have xHZ1 := Lib.hid (HZ1.out.below hb18)
  clear HZ1
  have HZ1 := xHZ1
  clear xHZ1
  have xHTT := Lib.hid (HTT.out.below hb18)
  clear HTT
  have HTT := xHTT
  clear xHTT
  have xHK := Lib.hid (bt HK.out hb18)
  clear HK
  have HK := xHK
  clear xHK
  have xHC1 := Lib.hid (HC1.out.below hb18)
  clear HC1
  have HC1 := xHC1
  clear xHC1
  have xHC2 := Lib.hid (HC2.out.below hb18)
  clear HC2
  have HC2 := xHC2
  clear xHC2
  clear hb18
  have a0 := HZ0.out.cell0
  go_wp2_with fail
  refine (sane_any _ HTT.out).mono ?_
  rintro e w19 ⟨rfl, hb19⟩
  clear a0
  have xHA := Lib.hid (HA.out.below hb19)
  clear HA
  have HA := xHA
  clear xHA
  have xHB := Lib.hid (HB.out.below hb19)
  clear HB
  have HB := xHB
  clear xHB
  have xHZ0 := Lib.hid (HZ0.out.below hb19)
  clear HZ0
  have HZ0 := xHZ0
  clear xHZ0
  have xHZ1 := Lib.hid (HZ1.out.below hb19)
  clear HZ1
  have HZ1 := xHZ1
  clear xHZ1
  have xHTT := Lib.hid (HTT.out.below hb19)
  clear HTT
  have HTT := xHTT
  clear xHTT
  have xHK := Lib.hid (bt HK.out hb19)
  clear HK
  have HK := xHK
  clear xHK
  have xHC1 := Lib.hid (HC1.out.below hb19)
  clear HC1
  have HC1 := xHC1
  clear xHC1
  have xHC2 := Lib.hid (HC2.out.below hb19)
  clear HC2
  have HC2 := xHC2
  clear xHC2
  clear hb19
  have a0 := HZ0.out.cell0
  have a1 := HZ0.out.cell1
  have e0 := HC1.out.box.cell0
  have e1 := HC1.out.box.cell1
  go_wp2_with fail
  refine (Stays_same HA.out.ws HC1.out.ws h0).mono ?_
  rintro e w20 ⟨rfl, hb20⟩
  clear a0 a1 e0 e1
  have a0 := (HZ1.out.below hb20).cell0
  have a1 := (HZ1.out.below hb20).cell1
  have e0 := (HC2.out.below hb20).box.cell0
  have e1 := (HC2.out.below hb20).box.cell1
  go_wp2_with fail
  refine (Stays_same (HB.out.ws.below hb20) (HC2.out.ws.below hb20) h3).mono ?_
  rintro e w21 ⟨rfl, hb21⟩
  go_wp2_with fail
  go_ret
  exact ⟨rfl, bt (bt HK.out hb20) hb21⟩
theorem NumStays_walk (w : World) (na nb : Bool) (A B : Option Addr) (ca cb : Nat) (l k : List Nat) (x : Int) (hl : WS w A l) (hk : WS w B k) (hca : l.length ≤ ca) (hcb : k.length ≤ cb) (hT : Tens w) : Calls Tryd.prog 8 #[.agg #[.bool na, .slice A l.length ca], .agg #[.bool nb, .slice B k.length cb], .int .i64 x] w fun e w' => e = .returned (.bool true) ∧ Below w.heap.size w w' := by
  rcases Nat.lt_or_ge 20 l.length with h | h0
  · exact NumStays_a w na nb A B ca cb l k x hl hk hca hcb hT h
  rcases Nat.lt_or_ge 20 k.length with h | h3
  · exact NumStays_b w na nb A B ca cb l k x hl hk hca hcb hT h0 h
  by_cases h4 : x < -5
  · exact NumStays_c w na nb A B ca cb l k x hl hk hca hcb hT h0 h3 h4
  by_cases h5 : 20 < x
  · exact NumStays_d w na nb A B ca cb l k x hl hk hca hcb hT h0 h3 h4 h5
  exact NumStays_main w na nb A B ca cb l k x hl hk hca hcb hT h0 h3 h4 h5
end Go.Proofs.YtaaipcjbmdbndaaDoor
