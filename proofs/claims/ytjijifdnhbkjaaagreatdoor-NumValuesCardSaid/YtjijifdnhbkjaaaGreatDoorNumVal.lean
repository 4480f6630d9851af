/- NumValues: the walk. -/
import Derived.Test.YtjijifdnhbkjaaaGreatDoorNumSane
import Derived.Deep.RegionHeld3
namespace Go.Proofs.YtjijifdnhbkjaaaGreatDoor
open Go.RowKit

theorem bdn {w w' : World} {n : Nat} (h : Below (w.drewN n).heap.size (w.drewN n) w') : Below w.heap.size w w' := ⟨h.os, h.tape, h.output, h.size, h.block⟩

set_option maxRecDepth 100000 in
set_option maxHeartbeats 400000 in
theorem short_wide (n : Nat) (a b c : Bool) (A B C : Option Addr) (x y z cx cy cz : Nat) (w : World) (hn : n ≤ 4000000000) (r : Bool) (hr : (decide (x ≤ n) && decide (y ≤ n) && decide (z ≤ n)) = r) :
    Calls Tryz.prog 6 #[.int .i64 (n : Int), .agg #[.bool a, .slice A x cx], .agg #[.bool b, .slice B y cy], .agg #[.bool c, .slice C z cz]] w fun e w' => e = .returned (.bool r) ∧ Below w.heap.size w w' := by
  subst hr
  go_enter Tryz.func6, Tryz.ntmps6
  by_cases h1 : x ≤ n
  · have h1i : (x : Int) ≤ (n : Int) := by omega
    by_cases h2 : y ≤ n
    · have h2i : (y : Int) ≤ (n : Int) := by omega
      by_cases h3 : z ≤ n
      · have h3i : (z : Int) ≤ (n : Int) := by omega
        go_wp2_with fail
        go_ret
        exact ⟨ret_bool (by simp [h1, h2, h3]), ba (ba (ba (b0 _) _) _) _⟩
      · have h3i : ¬ (z : Int) ≤ (n : Int) := by omega
        go_wp2_with fail
        go_ret
        exact ⟨ret_bool (by simp [h3]), ba (ba (ba (b0 _) _) _) _⟩
    · have h2i : ¬ (y : Int) ≤ (n : Int) := by omega
      go_wp2_with fail
      go_ret
      exact ⟨ret_bool (by simp [h2]), ba (ba (ba (b0 _) _) _) _⟩
  · have h1i : ¬ (x : Int) ≤ (n : Int) := by omega
    go_wp2_with fail
    go_ret
    exact ⟨ret_bool (by simp [h1]), ba (ba (ba (b0 _) _) _) _⟩

theorem box4 {W : World} {p q : Nat} {u v x y : Value} (h : Box2 W p u v) (k : Box2 W q x y) : W.cell? ⟨p, 0, none⟩ = some u ∧ W.cell? ⟨p, 1, none⟩ = some v ∧ W.cell? ⟨q, 0, none⟩ = some x ∧ W.cell? ⟨q, 1, none⟩ = some y :=
  ⟨h.cell0, h.cell1, k.cell0, k.cell1⟩
theorem ires_len {n : Bool} {l0 l : List Nat} {z : Int} (hz : zI n l = z) (hB : isB n l = true) (hw : ∀ x ∈ l0, x < 4294967296) (h : z.natAbs = val l0 ∨ z = 0) : l.length ≤ l0.length := by
  have e : val l = z.natAbs := by rw [← hz]; unfold zI; split <;> simp
  rcases h with h | h
  · exact top_len (isB_top hB) (by rw [e, h]; exact val_lt hw)
  · have : val l = 0 := by rw [e, h]; rfl
    rw [(val_eq_zero (isB_top hB)).1 this]; omega

theorem Bits_v {neg : Bool} {A : Option Addr} {c : Nat} {l : List Nat} {p : Bool} {v : Int} (hv : Hid (v = if p then (bl l : Int) else 0)) (w : World) (hm : l.length ≤ 4000000) (hl : WS w A l) (hp : isB neg l = p) :
    Calls Tryz.prog 15 #[.agg #[.bool neg, .slice A l.length c]] w fun e w' => e = .returned (.int .i64 v) ∧ Below w.heap.size w w' := by
  rw [hv.out]; exact Bits_any neg A l.length c l p w rfl hm hl hp
theorem RBits_v {neg : Bool} {A : Option Addr} {c : Nat} {l : List Nat} {p : Bool} {v : Int} (hv : Hid (v = if p then (bl l : Int) else 0)) (w : World) (hm : l.length ≤ 4000000) (hl : WS w A l) (hp : isB neg l = p) :
    Calls Tryz.prog 16 #[.agg #[.bool neg, .slice A l.length c]] w fun e w' => e = .returned (.int .i64 v) ∧ Below w.heap.size w w' := by
  rw [hv.out]; exact RBits_any neg A l.length c l p w rfl hm hl hp
theorem Cmp_v {na nb : Bool} {A B : Option Addr} {c d : Nat} {l k : List Nat} {p q : Bool} {v : Int} (hv : Hid (v = if p && q then cmpI (zI na l) (zI nb k) else 0)) (w : World) (hm : l.length ≤ 1000000) (hm2 : k.length ≤ 1000000) (hl : WS w A l) (hk : WS w B k) (hp : isB na l = p) (hq : isB nb k = q) :
    Calls Tryz.prog 19 #[.agg #[.bool na, .slice A l.length c], .agg #[.bool nb, .slice B k.length d]] w fun e w' => e = .returned (.int .i64 v) ∧ Below w.heap.size w w' := by
  rw [hv.out]; exact Cmp_any na nb A B l.length c k.length d l k p q w rfl rfl hm hm2 hl hk hp hq
theorem RCmp_v {na nb : Bool} {A B : Option Addr} {c d : Nat} {l k : List Nat} {p q : Bool} {v : Int} (hv : Hid (v = if p && q then cmpI (zI na l) (zI nb k) else 0)) (w : World) (hm : l.length ≤ 1000000) (hm2 : k.length ≤ 1000000) (hl : WS w A l) (hk : WS w B k) (hp : isB na l = p) (hq : isB nb k = q) :
    Calls Tryz.prog 20 #[.agg #[.bool na, .slice A l.length c], .agg #[.bool nb, .slice B k.length d]] w fun e w' => e = .returned (.int .i64 v) ∧ Below w.heap.size w w' := by
  rw [hv.out]; exact RCmp_any na nb A B l.length c k.length d l k p q w rfl rfl hm hm2 hl hk hp hq
theorem Sign_v {neg : Bool} {A : Option Addr} {c : Nat} {l : List Nat} {p : Bool} {v : Int} (hv : Hid (v = sgn p neg l)) (w : World) (hm : l.length ≤ 4000000) (hl : WS w A l) (hp : isB neg l = p) :
    Calls Tryz.prog 17 #[.agg #[.bool neg, .slice A l.length c]] w fun e w' => e = .returned (.int .i64 v) ∧ Below w.heap.size w w' := by
  rw [hv.out]; exact Sign_any neg A l.length c l p w rfl hm hl hp
theorem RSign_v {neg : Bool} {A : Option Addr} {c : Nat} {l : List Nat} {p : Bool} {v : Int} (hv : Hid (v = sgn p neg l)) (w : World) (hm : l.length ≤ 4000000) (hl : WS w A l) (hp : isB neg l = p) :
    Calls Tryz.prog 18 #[.agg #[.bool neg, .slice A l.length c]] w fun e w' => e = .returned (.int .i64 v) ∧ Below w.heap.size w w' := by
  rw [hv.out]; exact RSign_any neg A l.length c l p w rfl hm hl hp

theorem same_of {w : World} {z : Int} {n1 n2 : Bool} {A B : Option Addr} {c d : Nat} {l k : List Nat} (hl : WS w A l) (hk : WS w B k) (h1 : isB n1 l = true) (h2 : isB n2 k = true) (e1 : zI n1 l = z) (e2 : zI n2 k = z) (hm : l.length ≤ 4000000) (hm2 : k.length ≤ 4000000) :
    Calls Tryz.prog 12 #[.agg #[.bool n1, .slice A l.length c], .agg #[.bool n2, .slice B k.length d]] w fun e w' => e = .returned (.bool true) ∧ Below w.heap.size w w' := by
  have h := RSame_any n1 n2 A B l.length c k.length d l k w rfl rfl hm hm2 hl hk
  rw [same_iff hl.1 hk.1 h1 h2, e1, e2, decide_eq_true rfl] at h
  exact h

set_option maxRecDepth 100000 in
set_option maxHeartbeats 4000000 in
theorem NumValues_short (w : World) (na nb : Bool) (A B : Option Addr) (c d : Nat) (l k : List Nat) (N : Int) (p q : Bool) (hl : WS w A l) (hk : WS w B k) (hl1 : l.length ≤ 1000) (hk1 : k.length ≤ 1000) (hc : l.length ≤ c) (hd : k.length ≤ d) (hp : isB na l = p) (hq : isB nb k = q) (h1 : -9223372036854775808 ≤ N) (h2 : N ≤ 9223372036854775807) (hT : Tens w) :
    Calls Tryz.prog 3 #[.agg #[.bool na, .slice A l.length c], .agg #[.bool nb, .slice B k.length d], .int .i64 N] w fun e w' => e = .returned (.bool true) ∧ Below w.heap.size w w' := by
  have HTn := Lib.hid hT
  have HP := Lib.hid hp
  have HQ := Lib.hid hq
  have hsh := fun W => short_wide 1000 na nb nb A B B l.length k.length k.length c d d W (by omega) true (by simp [hl1, hk1])
  have HSH := Lib.hid hsh
  have H1 := Lib.hid h1
  have H2 := Lib.hid h2
  clear hT hp hq hsh h1 h2
  go_enter Tryz.func3, Tryz.ntmps3
  go_wp2_with fail
  obtain ⟨W1, hW1⟩ : ∃ W, W = (w.alloc (bx na A l.length c)).alloc (bx nb B k.length d) := ⟨_, rfl⟩
  have X0 : Box2 W1 w.heap.size (.bool na) (.slice A l.length c) := by rw [hW1]; exact (Box2.new w _ _).alloc _
  have X1 : Box2 W1 (w.heap.size + 1) (.bool nb) (.slice B k.length d) := by
    rw [hW1]
    have h := Box2.new (w.alloc (bx na A l.length c)) (.bool nb) (.slice B k.length d)
    rwa [World.size_alloc] at h
  have K1 : Below w.heap.size w W1 := by rw [hW1]; exact ba (ba (b0 _) _) _
  change Calls _ _ _ ((w.alloc (bx na A l.length c)).alloc (bx nb B k.length d)) _
  rw [← hW1]
  clear hW1
  refine (HSH.out W1).mono ?_
  rintro e w2 ⟨rfl, hb2⟩
  obtain ⟨a0, a1, a2, a3⟩ := box4 (X0.below hb2) (X1.below hb2)
  go_wp2_with fail
  have hK2 : Below w.heap.size w w2 := bt K1 hb2
  refine (Small_any na A l.length c l p w2 rfl (by omega) (hl.below hK2) HP.out).mono ?_
  rintro e w3 ⟨rfl, hb3⟩
  have hK3 : Below w.heap.size w w3 := bt hK2 hb3
  have Y0 := (X0.below hb2).below hb3
  have Y1 := (X1.below hb2).below hb3
  clear a0 a1 a2 a3
  obtain ⟨a0, a1, a2, a3⟩ := box4 Y0 Y1
  go_wp2_with fail
  refine (RSmall_any na A l.length c l p w3 rfl (by omega) (hl.below hK3) HP.out).mono ?_
  rintro e w4 ⟨rfl, hb4⟩
  have hK4 : Below w.heap.size w w4 := bt hK3 hb4
  have Z0 := Y0.below hb4
  have Z1 := Y1.below hb4
  clear a0 a1 a2 a3
  have s4 := box4 Z0 Z1
  generalize smallV p na l = sv at *
  obtain ⟨bv, hbv⟩ : ∃ bv : Int, bv = if p then (bl l : Int) else 0 := ⟨_, rfl⟩
  obtain ⟨sg, hsg⟩ : ∃ sg : Int, sg = sgn p na l := ⟨_, rfl⟩
  obtain ⟨cv, hcv⟩ : ∃ cv : Int, cv = if p && q then cmpI (zI na l) (zI nb k) else 0 := ⟨_, rfl⟩
  obtain ⟨zn, hzn⟩ : ∃ zn : Int, zn = ite0 p (-(zI na l)) := ⟨_, rfl⟩
  obtain ⟨zb, hzb⟩ : ∃ zb : Int, zb = ite0 p ((val l : Int)) := ⟨_, rfl⟩
  have HBV := Lib.hid hbv
  have HSG := Lib.hid hsg
  have HCV := Lib.hid hcv
  have HNA : Hid (zn.natAbs = val l ∨ zn = 0) := Lib.hid (by rw [hzn]; unfold ite0 zI; split <;> (try split) <;> simp)
  have HNB : Hid (zb.natAbs = val l ∨ zb = 0) := Lib.hid (by rw [hzb]; unfold ite0; split <;> simp)
  have HZN := Lib.hid hzn
  have HZB := Lib.hid hzb
  clear hbv hsg hcv hzn hzb
  clear X0 X1 Y0 Y1 hb2 hb3 hb4 K1 hK2 hK3 HSH
  go_wp2_with fail
  go_region_held3 (fun W => W.cell? ⟨w.heap.size, 0, none⟩ = some (.bool na) ∧ W.cell? ⟨w.heap.size, 1, none⟩ = some (.slice A l.length c) ∧ W.cell? ⟨w.heap.size + 1, 0, none⟩ = some (.bool nb) ∧ W.cell? ⟨w.heap.size + 1, 1, none⟩ = some (.slice B k.length d))
    (first | assumption | (exact s4))
    (first
      | (go_at_call 10; refine (Is_any na A l.length c l _ rfl (by omega) (hl.below (bd hK4 _))).mono ?_; rintro e w5 ⟨rfl, hb5⟩; have s5 := box4 (Z0.below (bdn hb5)) (Z1.below (bdn hb5)); have hK5 := bt hK4 (bdn hb5))
      | (go_at_call 11; refine (RIs_any na A l.length c l w5 rfl (by omega) (hl.below hK5)).mono ?_; rintro e w6 ⟨rfl, hb6⟩; have U0 := (Z0.below (bdn hb5)).below hb6; have U1 := (Z1.below (bdn hb5)).below hb6; have s6 := box4 U0 U1; have hK6 := bt hK5 hb6)
      | (go_at_call 13; refine (Of_any w6 w6 N H1.out H2.out (b0 _)).mono ?_; rintro e w7 ⟨n7, A7, c7, l7, rfl, hc7, hw7, hB7, hz7, hb7⟩; have HB7 := Lib.hid hB7; have HZ7 := Lib.hid hz7; clear hB7 hz7; have V0 := U0.below hb7; have V1 := U1.below hb7; have s7 := box4 V0 V1; have hK7 := bt hK6 hb7)
      | (go_at_call 14; refine (ROf_any w7 w7 N H1.out H2.out (b0 _)).mono ?_; rintro e w8 ⟨n8, A8, c8, l8, rfl, hc8, hw8, hB8, hz8, hb8⟩; have HB8 := Lib.hid hB8; have HZ8 := Lib.hid hz8; clear hB8 hz8; have s8 := box4 (V0.below hb8) (V1.below hb8); have hK8 := bt hK7 hb8)
      | (go_at_call 12; refine (same_of (hw7.ws.below hb8) hw8 HB7.out HB8.out HZ7.out HZ8.out (small_len HB7.out HZ7.out H1.out H2.out) (small_len HB8.out HZ8.out H1.out H2.out)).mono ?_; rintro e w9 ⟨rfl, hb9⟩; have P0 := (V0.below hb8).below hb9; have P1 := (V1.below hb8).below hb9; have s9 := box4 P0 P1; have hK9 := bt hK8 hb9)
      | (go_at_call 15; refine (Bits_v HBV w9 (by omega) (hl.below hK9) HP.out).mono ?_; rintro e w10 ⟨rfl, hb10⟩; have s10 := box4 (P0.below hb10) (P1.below hb10); have hK10 := bt hK9 hb10)
      | (go_at_call 16; refine (RBits_v HBV w10 (by omega) (hl.below hK10) HP.out).mono ?_; rintro e w11 ⟨rfl, hb11⟩; have Q0 := (P0.below hb10).below hb11; have Q1 := (P1.below hb10).below hb11; have s11 := box4 Q0 Q1; have hK11 := bt hK10 hb11))
  clear s4 s5 s6 s7 s8 s9 s10 U0 U1 V0 V1 P0 P1 Z0 Z1 hw7 hw8 HB7 HB8 HZ7 HZ8 hc7 hc8 hb5 hb6 hb7 hb8 hb9 hb10 hb11 hK4 hK5 hK6 hK7 hK8 hK9 hK10
  have tok1 : True := trivial
  go_wp2_with fail
  go_region_held3 (fun W => W.cell? ⟨w.heap.size, 0, none⟩ = some (.bool na) ∧ W.cell? ⟨w.heap.size, 1, none⟩ = some (.slice A l.length c) ∧ W.cell? ⟨w.heap.size + 1, 0, none⟩ = some (.bool nb) ∧ W.cell? ⟨w.heap.size + 1, 1, none⟩ = some (.slice B k.length d))
    (first | assumption | (exact s11))
    (first
      | (go_at_call 7; refine (sane_any _ (HTn.out.below (bd hK11 _))).mono ?_; rintro e w12 ⟨rfl, hb12⟩; have R0 := Q0.below (bdn hb12); have R1 := Q1.below (bdn hb12); have s12 := box4 R0 R1; have hK12 := bt hK11 (bdn hb12))
      | (go_at_call 17; refine (Sign_v HSG w12 (by omega) (hl.below hK12) HP.out).mono ?_; rintro e w13 ⟨rfl, hb13⟩; have s13 := box4 (R0.below hb13) (R1.below hb13); have hK13 := bt hK12 hb13)
      | (go_at_call 18; refine (RSign_v HSG w13 (by omega) (hl.below hK13) HP.out).mono ?_; rintro e w14 ⟨rfl, hb14⟩; have T0 := (R0.below hb13).below hb14; have T1 := (R1.below hb13).below hb14; have s14 := box4 T0 T1; have hK14 := bt hK13 hb14)
      | (go_at_call 19; refine (Cmp_v HCV w14 (by omega) (by omega) (hl.below hK14) (hk.below hK14) HP.out HQ.out).mono ?_; rintro e w15 ⟨rfl, hb15⟩; have s15 := box4 (T0.below hb15) (T1.below hb15); have hK15 := bt hK14 hb15)
      | (go_at_call 20; refine (RCmp_v HCV w15 (by omega) (by omega) (hl.below hK15) (hk.below hK15) HP.out HQ.out).mono ?_; rintro e w16 ⟨rfl, hb16⟩; have U0 := (T0.below hb15).below hb16; have U1 := (T1.below hb15).below hb16; have s16 := box4 U0 U1; have hK16 := bt hK15 hb16)
      | (go_at_call 21; refine (Neg_any w16 w16 na A l.length c l p rfl (by omega) (hl.below hK16) HP.out (b0 _)).mono ?_; rintro e w17 ⟨n17, A17, c17, l17, rfl, hc17, hw17, hB17, hz17, hb17⟩; have HB17 := Lib.hid hB17; have HZ17 := Lib.hid (hz17.trans HZN.out.symm); clear hB17 hz17; have V0 := U0.below hb17; have V1 := U1.below hb17; have s17 := box4 V0 V1; have hK17 := bt hK16 hb17)
      | (go_at_call 22; refine (RNeg_any w17 w17 na A l.length c l p rfl (by omega) hc (hl.below hK17) HP.out (b0 _)).mono ?_; rintro e w18 ⟨n18, A18, c18, l18, rfl, hc18, hw18, hB18, hz18, hb18⟩; have HB18 := Lib.hid hB18; have HZ18 := Lib.hid (hz18.trans HZN.out.symm); clear hB18 hz18; have V2 := V0.below hb18; have V3 := V1.below hb18; have s18 := box4 V2 V3; have hK18 := bt hK17 hb18)
      | (go_at_call 12; have _t := tok1; refine (same_of (hw17.ws.below hb18) hw18 HB17.out HB18.out HZ17.out HZ18.out (Nat.le_trans (ires_len HZ17.out HB17.out hl.1 HNA.out) (by omega)) (Nat.le_trans (ires_len HZ18.out HB18.out hl.1 HNA.out) (by omega))).mono ?_; rintro e w19 ⟨rfl, hb19⟩; clear tok1 _t; have P0 := V2.below hb19; have P1 := V3.below hb19; have s19 := box4 P0 P1; have hK19 := bt hK18 hb19)
      | (go_at_call 23; refine (Abs_any w19 w19 na A l.length c l p rfl (by omega) (hl.below hK19) HP.out (b0 _)).mono ?_; rintro e w20 ⟨n20, A20, c20, l20, rfl, hc20, hw20, hB20, hz20, hb20⟩; have HB20 := Lib.hid hB20; have HZ20 := Lib.hid (hz20.trans HZB.out.symm); clear hB20 hz20; have P2 := P0.below hb20; have P3 := P1.below hb20; have s20 := box4 P2 P3; have hK20 := bt hK19 hb20)
      | (go_at_call 24; refine (RAbs_any w20 w20 na A l.length c l p rfl (by omega) hc (hl.below hK20) HP.out (b0 _)).mono ?_; rintro e w21 ⟨n21, A21, c21, l21, rfl, hc21, hw21, hB21, hz21, hb21⟩; have HB21 := Lib.hid hB21; have HZ21 := Lib.hid (hz21.trans HZB.out.symm); clear hB21 hz21; have P4 := P2.below hb21; have P5 := P3.below hb21; have s21 := box4 P4 P5; have hK21 := bt hK20 hb21)
      | (go_at_call 12; refine (same_of (hw20.ws.below hb21) hw21 HB20.out HB21.out HZ20.out HZ21.out (Nat.le_trans (ires_len HZ20.out HB20.out hl.1 HNB.out) (by omega)) (Nat.le_trans (ires_len HZ21.out HB21.out hl.1 HNB.out) (by omega))).mono ?_; rintro e w22 ⟨rfl, hb22⟩; have s22 := box4 (P4.below hb22) (P5.below hb22); have hK22 := bt hK21 hb22))
  go_wp2_with fail
  go_ret
  exact ⟨rfl, hK22⟩

set_option maxRecDepth 100000 in
set_option maxHeartbeats 1000000 in
theorem NumValues_long (w : World) (na nb : Bool) (A B : Option Addr) (n c m d : Nat) (N : Int) (hlong : ¬ (n ≤ 1000 ∧ m ≤ 1000)) (hT : Tens w) :
    Calls Tryz.prog 3 #[.agg #[.bool na, .slice A n c], .agg #[.bool nb, .slice B m d], .int .i64 N] w fun e w' => e = .returned (.bool true) ∧ Below w.heap.size w w' := by
  have HTn := Lib.hid hT
  have hsh := fun W => short_wide 1000 na nb nb A B B n m m c d d W (by omega) false (by rw [Bool.eq_false_iff]; intro h; simp only [Bool.and_eq_true, decide_eq_true_eq] at h; exact hlong ⟨h.1.1, h.2⟩)
  have HSH := Lib.hid hsh
  clear hT hsh hlong
  go_enter Tryz.func3, Tryz.ntmps3
  go_wp2_with fail
  refine (HSH.out _).mono ?_
  rintro e w2 ⟨rfl, hb2⟩
  have hb : Below w.heap.size w w2 := bt (ba (ba (b0 _) _) _) hb2
  go_wp2_with fail
  refine (sane_any w2 (HTn.out.below hb)).mono ?_
  rintro e w3 ⟨rfl, hb3⟩
  go_wp2_with fail
  go_ret
  exact ⟨rfl, bt hb hb3⟩

theorem NumValues_walk (w : World) (na nb : Bool) (A B : Option Addr) (c d : Nat) (l k : List Nat) (N : Int) (hl : WS w A l) (hk : WS w B k) (hc : l.length ≤ c) (hd : k.length ≤ d) (h1 : -9223372036854775808 ≤ N) (h2 : N ≤ 9223372036854775807) (hT : Tens w) :
    Calls Tryz.prog 3 #[.agg #[.bool na, .slice A l.length c], .agg #[.bool nb, .slice B k.length d], .int .i64 N] w fun e w' => e = .returned (.bool true) ∧ Below w.heap.size w w' := by
  by_cases h : l.length ≤ 1000 ∧ k.length ≤ 1000
  · exact NumValues_short w na nb A B c d l k N _ _ hl hk h.1 h.2 hc hd rfl rfl h1 h2 hT
  · exact NumValues_long w na nb A B l.length c k.length d N h hT
end Go.Proofs.YtjijifdnhbkjaaaGreatDoor
