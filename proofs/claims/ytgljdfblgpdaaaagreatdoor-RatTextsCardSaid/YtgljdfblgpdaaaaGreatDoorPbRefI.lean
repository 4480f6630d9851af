import Derived.Test.YtgljdfblgpdaaaaGreatDoorPbRefV
set_option linter.unusedSimpArgs false
set_option linter.unusedVariables false
set_option maxRecDepth 100000
set_option maxHeartbeats 4000000
namespace Go.Proofs.YtgljdfblgpdaaaaGreatDoor
open Go.RowKit Go.Shelf
variable {A B : Option Addr} {N c d : Nat} {k l : List Nat} {m n : Bool} {w : World} {x y : Int}
def isQ (n : Bool) (l : List Nat) (m : Bool) (k : List Nat) : Bool :=
 isB n l && isB m k && decide (0 < zI m k) && decide (Nat.gcd (zI n l).natAbs (zI m k).natAbs = 1)
theorem isQ_can (h : isQ n l m k = true) : isB n l = true ∧ isB m k = true ∧ Can (zI n l) (zI m k) := by
 unfold isQ at h
 simp only [Bool.and_eq_true, decide_eq_true_eq] at h
 exact ⟨h.1.1.1, h.1.1.2, h.1.2, h.2⟩
theorem Same_d (h : IV w n A c l x) (h2 : IV w m B d k y) :
  Calls Tryz.prog 17 #[.agg #[.bool n, .slice A l.length c], .agg #[.bool m, .slice B k.length d]] w fun e w' => e = .returned (.bool (decide (x = y))) ∧ Below w.heap.size w w' := by
 have e1 := h.len
 have e2 := h2.len
 have r := RSame_any n m A B l.length c k.length d l k w rfl rfl (by omega) (by omega) h.ws h2.ws
 rwa [same_iff h.ws.1 h2.ws.1 h.can h2.can, h.val, h2.val] at r
theorem RQIs_f1 (hl : WS w A l) (hn : l.length ≤ 4000000) (hf : isB n l = false) :
  Calls Tryz.prog 36 #[.agg #[.bool n, .slice A l.length c, .bool m, .slice B k.length d]] w fun e w' => e = .returned (.bool false) ∧ Below w.heap.size w w' := by
 have HL := Hi hl
 have HN := Hi hn
 have HF := Hi hf
 clear hl hn hf
 obtain ⟨W1, hW1, hw1, x0⟩ := hdQ w n A c l m B d k
 go_enter Tryz.func36, Tryz.ntmps36
 go_wp2_with fail
 rw [← hW1]
 clear hW1
 obtain ⟨C00, C01, C02, C03⟩ := x0.cs
 have r := RIs_any n A l.length c l W1 rfl HN.out (HL.out.below hw1)
 rw [HF.out] at r
 refine (r).mono ?_
 rintro e wa ⟨rfl, hb⟩
 clear C00 C01 C02 C03
 replace x0 := x0.below hb
 have hw1_ := bt hw1 hb
 clear hb hw1
 go_wp2_with fail
 go_ret
 exact ⟨rfl, hw1_⟩
theorem RQIs_f2 (hl : WS w A l) (hn : l.length ≤ 4000000) (ht : isB n l = true) (hk : WS w B k) (hm : k.length ≤ 4000000) (hf : isB m k = false) :
  Calls Tryz.prog 36 #[.agg #[.bool n, .slice A l.length c, .bool m, .slice B k.length d]] w fun e w' => e = .returned (.bool false) ∧ Below w.heap.size w w' := by
 have HL := Hi hl
 have HN := Hi hn
 have HF := Hi hf
 have HT := Hi ht
 have HK := Hi hk
 have HM := Hi hm
 clear hl hn hf ht hk hm
 obtain ⟨W1, hW1, hw1, x0⟩ := hdQ w n A c l m B d k
 go_enter Tryz.func36, Tryz.ntmps36
 go_wp2_with fail
 rw [← hW1]
 clear hW1
 obtain ⟨C00, C01, C02, C03⟩ := x0.cs
 have r := RIs_any n A l.length c l W1 rfl HN.out (HL.out.below hw1)
 rw [HT.out] at r
 refine (r).mono ?_
 rintro e wa ⟨rfl, hb⟩
 clear C00 C01 C02 C03
 replace x0 := x0.below hb
 have hw1_ := bt hw1 hb
 clear hb hw1
 refine g0 ?_
 intros
 have r := RIs_any m B k.length d k wa rfl HM.out (HK.out.below hw1_)
 rw [HF.out] at r
 refine (r).mono ?_
 rintro e wb ⟨rfl, hb⟩
 replace x0 := x0.below hb
 exact mafd61
theorem m75d0e {P : Prop} (h : P := by
 have H1 := Hi h
 have H2 := Hi h2
 have HV := Hi hv
 clear h h2 hv
 obtain ⟨W1, hW1, hw1, x0⟩ := hdQ w n A c l m B d k
 go_enter Tryz.func36, Tryz.ntmps36
 go_wp2_with fail
 rw [← hW1]
 clear hW1
 refine (RIs_iv (H1.out.below hw1)).mono ?_
 rintro e wa ⟨rfl, hb⟩
 replace x0 := x0.below hb
 have hw1_ := bt hw1 hb
 clear hb hw1
 refine g0 ?_
 intros
 refine (RIs_iv (H2.out.below hw1_)).mono ?_
 rintro e wb ⟨rfl, hb⟩
 replace x0 := x0.below hb
 have hw2_ := bt hw1_ hb
 clear hb hw1_
 refine g0 ?_
 intros
 refine (RSign_iv (H2.out.below hw2_) HV.out).mono ?_
 rintro e wc1 ⟨rfl, hb⟩
 replace x0 := x0.below hb
 have hw3_ := bt hw2_ hb
 clear hb hw2_
 go_wp2_with fail
 go_ret
 exact ⟨rfl, hw3_⟩) : P := h
theorem RQIs_neg (h : IV w n A c l x) (h2 : IV w m B d k y) (hv : cmpI y 0 = -1) :
  Calls Tryz.prog 36 #[.agg #[.bool n, .slice A l.length c, .bool m, .slice B k.length d]] w fun e w' => e = .returned (.bool false) ∧ Below w.heap.size w w' := by
 exact m75d0e
theorem RQIs_zero (h : IV w n A c l x) (h2 : IV w m B d k y) (hv : cmpI y 0 = 0) :
  Calls Tryz.prog 36 #[.agg #[.bool n, .slice A l.length c, .bool m, .slice B k.length d]] w fun e w' => e = .returned (.bool false) ∧ Below w.heap.size w w' := by
 exact m75d0e
theorem RQIs_pos (h : IV w n A c l x) (h2 : IV w m B d k y) (hv : cmpI y 0 = 1) (hl : Lt 2100 ((Nat.gcd x.natAbs y.natAbs : Nat) : Int)) :
  Calls Tryz.prog 36 #[.agg #[.bool n, .slice A l.length c, .bool m, .slice B k.length d]] w fun e w' => e = .returned (.bool (decide (((Nat.gcd x.natAbs y.natAbs : Nat) : Int) = 1))) ∧ Below w.heap.size w w' := by
 have H1 := Hi h
 have H2 := Hi h2
 have HV := Hi hv
 have HL1 := Hi hl
 clear h h2 hv hl
 obtain ⟨W1, hW1, hw1, x0⟩ := hdQ w n A c l m B d k
 go_enter Tryz.func36, Tryz.ntmps36
 go_wp2_with fail
 rw [← hW1]
 clear hW1
 refine (RIs_iv (H1.out.below hw1)).mono ?_
 rintro e wa ⟨rfl, hb⟩
 replace x0 := x0.below hb
 have hw1_ := bt hw1 hb
 clear hb hw1
 refine g0 ?_
 intros
 refine (RIs_iv (H2.out.below hw1_)).mono ?_
 rintro e wb ⟨rfl, hb⟩
 replace x0 := x0.below hb
 have hw2_ := bt hw1_ hb
 clear hb hw1_
 refine g0 ?_
 intros
 refine (RSign_iv (H2.out.below hw2_) HV.out).mono ?_
 rintro e wc1 ⟨rfl, hb⟩
 replace x0 := x0.below hb
 have hw3_ := bt hw2_ hb
 clear hb hw2_
 refine g0 ?_
 intros
 refine (RGcd_iv (H1.out.below hw3_) (H2.out.below hw3_) rfl HL1.out).mono ?_
 rintro e wd ⟨n1, A1, c1, l1, rfl, i1, hb⟩
 replace x0 := x0.below hb
 have hw4_ := bt hw3_ hb
 clear hb hw3_
 have HI1 := Hi i1
 clear i1
 go_wp2_with fail
 refine (Rone_iv wd).mono ?_
 rintro e we ⟨n2, A2, c2, l2, rfl, i2, hb⟩
 replace x0 := x0.below hb
 replace HI1 := Hi (HI1.out.below hb)
 have hw5_ := bt hw4_ hb
 clear hb hw4_
 have HI2 := Hi i2
 clear i2
 go_wp2_with fail
 refine (Same_d HI1.out HI2.out).mono ?_
 rintro e wf ⟨rfl, hb⟩
 replace x0 := x0.below hb
 replace HI1 := Hi (HI1.out.below hb)
 replace HI2 := Hi (HI2.out.below hb)
 have hw6_ := bt hw5_ hb
 clear hb hw5_
 go_wp2_with fail
 go_ret
 exact ⟨rfl, hw6_⟩
theorem RQIs_any (hl : WS w A l) (hk : WS w B k) (hc : l.length ≤ c) (hd : k.length ≤ d) (hn : l.length ≤ 2100) (hm : k.length ≤ 2100) :
  Calls Tryz.prog 36 #[.agg #[.bool n, .slice A l.length c, .bool m, .slice B k.length d]] w fun e w' => e = .returned (.bool (isQ n l m k)) ∧ Below w.heap.size w w' := by
 cases h1 : isB n l
 ·have e : isQ n l m k = false := by unfold isQ; rw [h1]; rfl
  rw [e]
  exact RQIs_f1 hl (by omega) h1
 cases h2 : isB m k
 ·have e : isQ n l m k = false := by unfold isQ; rw [h1, h2]; rfl
  rw [e]
  exact RQIs_f2 hl (by omega) h1 hk (by omega) h2
 have i1 : IV w n A c l (zI n l) := ⟨hc, hl, h1, rfl, hn⟩
 have i2 : IV w m B d k (zI m k) := ⟨hd, hk, h2, rfl, hm⟩
 rcases Int.lt_trichotomy (zI m k) 0 with h | h | h
 ·have e : isQ n l m k = false := by unfold isQ; rw [decide_eq_false (by omega : ¬ (0 < zI m k))]; simp
  rw [e]
  exact RQIs_neg i1 i2 (by unfold cmpI; rw [if_pos h])
 ·have e : isQ n l m k = false := by unfold isQ; rw [decide_eq_false (by omega : ¬ (0 < zI m k))]; simp
  rw [e]
  exact RQIs_zero i1 i2 (by unfold cmpI; rw [if_neg (by omega), if_pos h])
 ·have e : isQ n l m k = decide (((Nat.gcd (zI n l).natAbs (zI m k).natAbs : Nat) : Int) = 1) := by
   unfold isQ
   rw [h1, h2, decide_eq_true h, Bool.eq_iff_iff]
   simp only [Bool.true_and, decide_eq_true_eq]
   omega
  rw [e]
  refine RQIs_pos i1 i2 (cmpI_pos h) ?_
  have h3 := lt_le (lt_val hk (n := m) rfl) hm
  have h4 : Nat.gcd (zI n l).natAbs (zI m k).natAbs ≤ (zI m k).natAbs := Nat.gcd_le_right _ (by omega)
  unfold Lt at h3 ⊢
  rw [Int.natAbs_natCast]
  exact Nat.lt_of_le_of_lt h4 h3
theorem me6181 {P : Prop} (h : P := by
 obtain ⟨W1, hW1, hw1, x0⟩ := hdQ w n A c l m B d k
 go_enter Tryz.func37, Tryz.ntmps37
 go_wp2_with fail
 rw [← hW1]
 clear hW1
 refine g0 ?_
 intros
 go_ret
 exact ⟨rfl, hw1⟩) : P := h
theorem small_n1 (h : ¬ ((l.length : Int) ≤ (N : Int))) :
  Calls Tryz.prog 37 #[.agg #[.bool n, .slice A l.length c, .bool m, .slice B k.length d], .int .i64 (N : Int)] w fun e w' => e = .returned (.bool false) ∧ Below w.heap.size w w' := by
 have F1 := decide_eq_false h
 exact me6181
theorem small_n2 (h : (l.length : Int) ≤ (N : Int)) (h2 : ¬ ((k.length : Int) ≤ (N : Int))) :
  Calls Tryz.prog 37 #[.agg #[.bool n, .slice A l.length c, .bool m, .slice B k.length d], .int .i64 (N : Int)] w fun e w' => e = .returned (.bool false) ∧ Below w.heap.size w w' := by
 have F1 := decide_eq_true h
 have F2 := decide_eq_false h2
 exact me6181
theorem small_y (h : (l.length : Int) ≤ (N : Int)) (h2 : (k.length : Int) ≤ (N : Int)) (hl : WS w A l) (hk : WS w B k) (hc : l.length ≤ c) (hd : k.length ≤ d) (hn : l.length ≤ 2100) (hm : k.length ≤ 2100) :
  Calls Tryz.prog 37 #[.agg #[.bool n, .slice A l.length c, .bool m, .slice B k.length d], .int .i64 (N : Int)] w fun e w' => e = .returned (.bool (isQ n l m k)) ∧ Below w.heap.size w w' := by
 have F1 := decide_eq_true h
 have F2 := decide_eq_true h2
 have HL := Hi hl
 have HK := Hi hk
 have HC := Hi hc
 have HD := Hi hd
 have HN := Hi hn
 have HM := Hi hm
 clear hl hk hc hd hn hm
 obtain ⟨W1, hW1, hw1, x0⟩ := hdQ w n A c l m B d k
 go_enter Tryz.func37, Tryz.ntmps37
 go_wp2_with fail
 rw [← hW1]
 clear hW1
 refine g0 ?_
 intros
 refine (RQIs_any (HL.out.below hw1) (HK.out.below hw1) HC.out HD.out HN.out HM.out).mono ?_
 rintro e wa ⟨rfl, hb⟩
 replace x0 := x0.below hb
 have hw1_ := bt hw1 hb
 clear hb hw1
 go_wp2_with fail
 go_ret
 exact ⟨rfl, hw1_⟩
theorem small_any (hN : N ≤ 2100) (hl : WS w A l) (hk : WS w B k) (hc : l.length ≤ c) (hd : k.length ≤ d) :
  Calls Tryz.prog 37 #[.agg #[.bool n, .slice A l.length c, .bool m, .slice B k.length d], .int .i64 (N : Int)] w fun e w' => e = .returned (.bool (decide (l.length ≤ N) && decide (k.length ≤ N) && isQ n l m k)) ∧ Below w.heap.size w w' := by
 by_cases h1 : l.length ≤ N
 ·by_cases h2 : k.length ≤ N
  ·rw [decide_eq_true h1, decide_eq_true h2]
   exact small_y (by omega) (by omega) hl hk hc hd (by omega) (by omega)
  ·rw [decide_eq_true h1, decide_eq_false h2]
   exact small_n2 (by omega) (by omega)
 ·rw [decide_eq_false h1]
  exact small_n1 (by omega)
theorem small_can (h : (decide (l.length ≤ N) && decide (k.length ≤ N) && isQ n l m k) = true) :
  l.length ≤ N ∧ k.length ≤ N ∧ isB n l = true ∧ isB m k = true ∧ Can (zI n l) (zI m k) := by
 simp only [Bool.and_eq_true, decide_eq_true_eq] at h
 exact ⟨h.1.1, h.1.2, isQ_can h.2⟩
end Go.Proofs.YtgljdfblgpdaaaaGreatDoor
