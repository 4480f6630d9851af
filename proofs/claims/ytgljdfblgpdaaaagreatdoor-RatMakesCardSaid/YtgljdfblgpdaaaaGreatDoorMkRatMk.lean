import Derived.Test.YtgljdfblgpdaaaaGreatDoorPbRefI
import Derived.Test.YtgljdfblgpdaaaaGreatDoorPbRefX
import Derived.Test.YtgljdfblgpdaaaaGreatDoorMkRefT
set_option linter.unusedSimpArgs false
set_option linter.unusedVariables false
set_option maxRecDepth 100000
set_option maxHeartbeats 4000000
namespace Go.Proofs.YtgljdfblgpdaaaaGreatDoor
open Go Go.RowKit Go.Shelf
variable {A B : Option Addr} {c d : Nat} {k l : List Nat} {m n : Bool} {w : World} {x y : Int}
section
variable {P : Program} {ops : Array Oper} {Q : Exit → Act → World → Prop} {md : Region.Mode} {S : World → Prop}
theorem tu (i : Nat) {oi : Oper} {fuel : Nat} {L L' : Array Bool} {a a' : Act} (h : wpAnyH P md ops Q S fuel L' a' w) (hi : ops[i]? = some oi := by rfl)
  (hs : Region.noSelect ops = true := by kernel_rfl) (hf : Region.free md ops L i = true := by kernel_rfl) (hr : (Region.ready md ops L).contains i = true := by kernel_rfl)
  (hQ : ∀ c a w, Q (.panic c) (a.put oi.dst undef) w → Q (.panic c) a w := by exact fun _ _ _ h => h) (hw : Region.wanted oi (yielded ops a.tmps) = false := by rfl) (hS : S w := by assumption)
  (ha : a.put oi.dst undef = a' := by (try simp only [Act.put, List.getElem_toArray, List.getElem_cons_zero, List.getElem_cons_succ, List.setIfInBounds_toArray, List.set_cons_zero, List.set_cons_succ]); all_goals rfl)
  (hL : L.setIfInBounds i true = L' := by (try simp only [List.setIfInBounds_toArray, List.set_cons_zero, List.set_cons_succ]); all_goals rfl) : wpAnyH P md ops Q S (fuel + 1) L a w := by
 subst ha hL
 exact wpAnyH_take hi hs hf hr hQ (Or.inr ⟨hw, rfl⟩) hS h
end
theorem coprime_d (h : IV w n A c l x) (h2 : IV w m B d k y) (hl : Lt 300 ((Nat.gcd x.natAbs y.natAbs : Nat) : Int)) :
  Calls Tryz.prog 109 #[.agg #[.bool n, .slice A l.length c], .agg #[.bool m, .slice B k.length d]] w fun e w' => e = .returned (.bool (decide (((Nat.gcd x.natAbs y.natAbs : Nat) : Int) = 1))) ∧ Below w.heap.size w w' := by
 have H1 := Hi h
 have H2 := Hi h2
 have HL := Hi hl
 clear h h2 hl
 obtain ⟨W1, hW1, hw1, x0, x1⟩ := hdII w n A c l m B d k
 go_enter Tryz.func109, Tryz.ntmps109
 go_wp2_with fail
 rw [← hW1]
 clear hW1
 refine g0i1i ?_
 intros
 refine (Gcd_iv (H1.out.below hw1) (H2.out.below hw1) rfl HL.out).mono ?_
 exact m488b0
theorem m4c435 {P : Prop} (h : P := by
 have hw1_ := bt hw1 hb
 clear hb hw1
 go_wp2_with fail
 go_ret
 exact ⟨rfl, hw1_⟩) : P := h
theorem sound_f (hl : WS w A l) (hk : WS w B k) (hn : l.length ≤ 4000000) (hm : k.length ≤ 4000000) (hf : isB n l = false) :
  Calls Tryz.prog 108 #[.agg #[.bool n, .slice A l.length c, .bool m, .slice B k.length d]] w fun e w' => e = .returned (.bool false) ∧ Below w.heap.size w w' := by
 have HL := Hi hl
 have HK := Hi hk
 have HN := Hi hn
 have HM := Hi hm
 clear hl hk hn hm
 have HF := Hi hf
 clear hf
 obtain ⟨W1, hW1, hw1, x0⟩ := hdQ w n A c l m B d k
 go_enter Tryz.func108, Tryz.ntmps108
 go_wp2_with fail
 rw [← hW1]
 clear hW1
 obtain ⟨C00, C01, C02, C03⟩ := x0.cs
 have r := Is_any n A l.length c l W1 rfl HN.out (HL.out.below hw1)
 rw [HF.out] at r
 refine (r).mono ?_
 rintro e wa ⟨rfl, hb⟩
 clear C00 C01 C02 C03
 replace x0 := x0.below hb
 exact m4c435
theorem sound_t (hl : WS w A l) (hk : WS w B k) (hn : l.length ≤ 4000000) (hm : k.length ≤ 4000000) (hf : isB n l = true) :
  Calls Tryz.prog 108 #[.agg #[.bool n, .slice A l.length c, .bool m, .slice B k.length d]] w fun e w' => e = .returned (.bool (decide (0 < sgn (isB m k) m k))) ∧ Below w.heap.size w w' := by
 have HL := Hi hl
 have HK := Hi hk
 have HN := Hi hn
 have HM := Hi hm
 clear hl hk hn hm
 have HF := Hi hf
 clear hf
 obtain ⟨p, hp⟩ : ∃ p, p = isB m k := ⟨_, rfl⟩
 obtain ⟨v, hv⟩ : ∃ v, v = sgn p m k := ⟨_, rfl⟩
 rw [← hp, ← hv]
 have HP := Hi hp
 have HV := Hi hv
 clear hp hv
 obtain ⟨W1, hW1, hw1, x0⟩ := hdQ w n A c l m B d k
 go_enter Tryz.func108, Tryz.ntmps108
 go_wp2_with fail
 rw [← hW1]
 clear hW1
 obtain ⟨C00, C01, C02, C03⟩ := x0.cs
 have r := Is_any n A l.length c l W1 rfl HN.out (HL.out.below hw1)
 rw [HF.out] at r
 refine (r).mono ?_
 rintro e wa ⟨rfl, hb⟩
 clear C00 C01 C02 C03
 replace x0 := x0.below hb
 have hw1_ := bt hw1 hb
 clear hb hw1
 refine g0 ?_
 intros
 have r := Sign_any m B k.length d k p wa rfl HM.out (HK.out.below hw1_) HP.out.symm
 rw [← HV.out] at r
 refine (r).mono ?_
 rintro e wb ⟨rfl, hb⟩
 replace x0 := x0.below hb
 exact mafd61
theorem sound_any (hl : WS w A l) (hk : WS w B k) (hn : l.length ≤ 4000000) (hm : k.length ≤ 4000000) :
  Calls Tryz.prog 108 #[.agg #[.bool n, .slice A l.length c, .bool m, .slice B k.length d]] w fun e w' => e = .returned (.bool (isB n l && (isB m k && decide (0 < zI m k)))) ∧ Below w.heap.size w w' := by
 cases h1 : isB n l
 ·exact sound_f hl hk hn hm h1
 ·have r := sound_t (m := m) (c := c) (d := d) hl hk hn hm h1
  cases h2 : isB m k
  ·rw [h2] at r; simpa [sgn] using r
  ·rw [h2, sgn_eq h2] at r
   have e : decide (0 < cmpI (zI m k) 0) = decide (0 < zI m k) := by
    rcases Int.lt_trichotomy (zI m k) 0 with h | h | h
    ·rw [cmpI_neg h, decide_eq_false (by decide), decide_eq_false (by omega)]
    ·rw [h]; rfl
    ·rw [cmpI_pos h, decide_eq_true (by decide), decide_eq_true h]
   rw [e] at r; simpa using r
theorem QIs_f (hl : WS w A l) (hk : WS w B k) (hn : l.length ≤ 4000000) (hm : k.length ≤ 4000000) (hf : (isB n l && (isB m k && decide (0 < zI m k))) = false) :
  Calls Tryz.prog 35 #[.agg #[.bool n, .slice A l.length c, .bool m, .slice B k.length d]] w fun e w' => e = .returned (.bool false) ∧ Below w.heap.size w w' := by
 have HL := Hi hl
 have HK := Hi hk
 have HN := Hi hn
 have HM := Hi hm
 clear hl hk hn hm
 have HF := Hi hf
 clear hf
 obtain ⟨W1, hW1, hw1, x0⟩ := hdQ w n A c l m B d k
 go_enter Tryz.func35, Tryz.ntmps35
 go_wp2_with fail
 rw [← hW1]
 clear hW1
 refine g0 ?_
 intros
 have r := sound_any (n := n) (m := m) (c := c) (d := d) (HL.out.below hw1) (HK.out.below hw1) HN.out HM.out
 rw [HF.out] at r
 refine (r).mono ?_
 rintro e wa ⟨rfl, hb⟩
 replace x0 := x0.below hb
 exact m4c435
theorem QIs_t (hl : WS w A l) (hk : WS w B k) (hn : l.length ≤ 4000000) (hm : k.length ≤ 4000000) (hf : (isB n l && (isB m k && decide (0 < zI m k))) = true) (hc : IV w n A c l x ∧ IV w m B d k y) (hg : Lt 300 ((Nat.gcd x.natAbs y.natAbs : Nat) : Int)) :
  Calls Tryz.prog 35 #[.agg #[.bool n, .slice A l.length c, .bool m, .slice B k.length d]] w fun e w' => e = .returned (.bool (decide (((Nat.gcd x.natAbs y.natAbs : Nat) : Int) = 1))) ∧ Below w.heap.size w w' := by
 have HL := Hi hl
 have HK := Hi hk
 have HN := Hi hn
 have HM := Hi hm
 clear hl hk hn hm
 have HF := Hi hf
 clear hf
 have HG := Hi hg
 have HC := Hi hc
 clear hg hc
 obtain ⟨W1, hW1, hw1, x0⟩ := hdQ w n A c l m B d k
 go_enter Tryz.func35, Tryz.ntmps35
 go_wp2_with fail
 rw [← hW1]
 clear hW1
 refine g0 ?_
 intros
 have r := sound_any (n := n) (m := m) (c := c) (d := d) (HL.out.below hw1) (HK.out.below hw1) HN.out HM.out
 rw [HF.out] at r
 refine (r).mono ?_
 rintro e wa ⟨rfl, hb⟩
 replace x0 := x0.below hb
 have hw1_ := bt hw1 hb
 clear hb hw1
 refine g0 ?_
 intros
 refine (coprime_d (HC.out.1.below hw1_) (HC.out.2.below hw1_) HG.out).mono ?_
 rintro e wb ⟨rfl, hb⟩
 replace x0 := x0.below hb
 exact mafd61
theorem QIs_any (hl : WS w A l) (hk : WS w B k) (hc : l.length ≤ c) (hd : k.length ≤ d) (hn : l.length ≤ 300) (hm : k.length ≤ 300) :
  Calls Tryz.prog 35 #[.agg #[.bool n, .slice A l.length c, .bool m, .slice B k.length d]] w fun e w' => e = .returned (.bool (isQ n l m k)) ∧ Below w.heap.size w w' := by
 cases h : (isB n l && (isB m k && decide (0 < zI m k))) with
 | false =>
  have e : isQ n l m k = false := by
   cases hq : isQ n l m k
   ·rfl
   ·obtain ⟨a1, a2, a3⟩ := isQ_can hq
    rw [a1, a2, decide_eq_true a3.1] at h
    exact absurd h (by decide)
  rw [e]
  exact QIs_f hl hk (by omega) (by omega) h
 | true =>
  have h' := h
  simp only [Bool.and_eq_true, decide_eq_true_eq] at h'
  have i1 : IV w n A c l (zI n l) := ⟨hc, hl, h'.1, rfl, hn⟩
  have i2 : IV w m B d k (zI m k) := ⟨hd, hk, h'.2.1, rfl, hm⟩
  have hg : Lt 300 ((Nat.gcd (zI n l).natAbs (zI m k).natAbs : Nat) : Int) := by
   have h3 : Lt 300 (zI m k) := lt_le (lt_val hk rfl) hm
   unfold Lt at h3 ⊢
   rw [Int.natAbs_natCast]
   exact Nat.lt_of_le_of_lt (Nat.gcd_le_right _ (by have := h'.2.2; omega)) h3
  have e : isQ n l m k = decide (((Nat.gcd (zI n l).natAbs (zI m k).natAbs : Nat) : Int) = 1) := by
   unfold isQ
   rw [h'.1, h'.2.1, decide_eq_true h'.2.2]
   simp only [Bool.true_and]
   exact decide_eq_decide.2 (by omega)
  rw [e]
  exact QIs_t hl hk (by omega) (by omega) h ⟨i1, i2⟩ hg
theorem Make_f1 (hl : WS w A l) (hk : WS w B k) (hn : l.length ≤ 4000000) (hm : k.length ≤ 4000000) (hf : isB n l = false) :
  Calls Tryz.prog 29 #[.agg #[.bool n, .slice A l.length c], .agg #[.bool m, .slice B k.length d]] w (RQE w 0 0 3) := by
 have HL := Hi hl
 have HK := Hi hk
 have HN := Hi hn
 have HM := Hi hm
 clear hl hk hn hm
 have HF := Hi hf
 clear hf
 obtain ⟨W1, hW1, hw1, x0, x1, x2⟩ := hdIIq w n A c l m B d k
 go_enter Tryz.func29, Tryz.ntmps29
 go_wp2_with fail
 rw [← hW1]
 clear hW1
 obtain ⟨C00, C01⟩ := x0.cs
 have r := Is_any n A l.length c l W1 rfl HN.out (HL.out.below hw1)
 rw [HF.out] at r
 refine (r).mono ?_
 rintro e wa ⟨rfl, hb⟩
 clear C00 C01
 replace x0 := x0.below hb
 replace x1 := x1.below hb
 replace x2 := x2.below hb
 have hw1_ := bt hw1 hb
 clear hb hw1
 obtain ⟨f0, f1, f2, f3⟩ := x2.fr
 obtain ⟨r0, r1, r2, r3⟩ := x2.cs
 go_wp2_with fail
 have z2 := x2.stored (.bool false) (.slice none 0 0) (.bool false) (.slice none 0 0)
 obtain ⟨k0, k1, k2, k3⟩ := z2.cs
 refine bodyPost_ret (v := .tuple #[.agg #[.bool false, .slice none 0 0, .bool false, .slice none 0 0], .int .i64 3]) (by simp [results, Tryz.results29, go_sem, k0, k1, k2, k3]) rfl ?_
 exact rqe_store (l := []) (k := []) hw1_ (by omega) x2 (iv0 _) (iv0 _)
theorem Make_f2 (hl : WS w A l) (hk : WS w B k) (hn : l.length ≤ 4000000) (hm : k.length ≤ 4000000) (hf : isB n l = true) (hg : isB m k = false) :
  Calls Tryz.prog 29 #[.agg #[.bool n, .slice A l.length c], .agg #[.bool m, .slice B k.length d]] w (RQE w 0 0 3) := by
 have HL := Hi hl
 have HK := Hi hk
 have HN := Hi hn
 have HM := Hi hm
 clear hl hk hn hm
 have HF := Hi hf
 clear hf
 have HG := Hi hg
 clear hg
 obtain ⟨W1, hW1, hw1, x0, x1, x2⟩ := hdIIq w n A c l m B d k
 go_enter Tryz.func29, Tryz.ntmps29
 go_wp2_with fail
 rw [← hW1]
 clear hW1
 obtain ⟨C00, C01⟩ := x0.cs
 have r := Is_any n A l.length c l W1 rfl HN.out (HL.out.below hw1)
 rw [HF.out] at r
 refine (r).mono ?_
 rintro e wa ⟨rfl, hb⟩
 clear C00 C01
 replace x0 := x0.below hb
 replace x1 := x1.below hb
 replace x2 := x2.below hb
 have hw1_ := bt hw1 hb
 clear hb hw1
 refine g0i1i ?_
 intros
 have r := Is_any m B k.length d k wa rfl HM.out (HK.out.below hw1_)
 rw [HG.out] at r
 refine (r).mono ?_
 rintro e wb ⟨rfl, hb⟩
 replace x0 := x0.below hb
 replace x1 := x1.below hb
 replace x2 := x2.below hb
 have hw2_ := bt hw1_ hb
 clear hb hw1_
 obtain ⟨f0, f1, f2, f3⟩ := x2.fr
 obtain ⟨r0, r1, r2, r3⟩ := x2.cs
 go_wp2_with fail
 have z2 := x2.stored (.bool false) (.slice none 0 0) (.bool false) (.slice none 0 0)
 obtain ⟨k0, k1, k2, k3⟩ := z2.cs
 refine bodyPost_ret (v := .tuple #[.agg #[.bool false, .slice none 0 0, .bool false, .slice none 0 0], .int .i64 3]) (by simp [results, Tryz.results29, go_sem, k0, k1, k2, k3]) rfl ?_
 exact rqe_store (l := []) (k := []) hw2_ (by omega) x2 (iv0 _) (iv0 _)
theorem RMake_f1 (hl : WS w A l) (hk : WS w B k) (hn : l.length ≤ 4000000) (hm : k.length ≤ 4000000) (hf : isB n l = false) :
  Calls Tryz.prog 30 #[.agg #[.bool n, .slice A l.length c], .agg #[.bool m, .slice B k.length d]] w (RQE w 0 0 3) := by
 have HL := Hi hl
 have HK := Hi hk
 have HN := Hi hn
 have HM := Hi hm
 clear hl hk hn hm
 have HF := Hi hf
 clear hf
 obtain ⟨W1, hW1, hw1, x0, x1, x2⟩ := hdIIq w n A c l m B d k
 go_enter Tryz.func30, Tryz.ntmps30
 go_wp2_with fail
 rw [← hW1]
 clear hW1
 obtain ⟨C00, C01⟩ := x0.cs
 have r := RIs_any n A l.length c l W1 rfl HN.out (HL.out.below hw1)
 rw [HF.out] at r
 refine (r).mono ?_
 rintro e wa ⟨rfl, hb⟩
 clear C00 C01
 replace x0 := x0.below hb
 replace x1 := x1.below hb
 replace x2 := x2.below hb
 have hw1_ := bt hw1 hb
 clear hb hw1
 obtain ⟨f0, f1, f2, f3⟩ := x2.fr
 obtain ⟨r0, r1, r2, r3⟩ := x2.cs
 go_wp2_with fail
 have z2 := x2.stored (.bool false) (.slice none 0 0) (.bool false) (.slice none 0 0)
 obtain ⟨k0, k1, k2, k3⟩ := z2.cs
 refine bodyPost_ret (v := .tuple #[.agg #[.bool false, .slice none 0 0, .bool false, .slice none 0 0], .int .i64 3]) (by simp [results, Tryz.results30, go_sem, k0, k1, k2, k3]) rfl ?_
 exact rqe_store (l := []) (k := []) hw1_ (by omega) x2 (iv0 _) (iv0 _)
theorem RMake_f2 (hl : WS w A l) (hk : WS w B k) (hn : l.length ≤ 4000000) (hm : k.length ≤ 4000000) (hf : isB n l = true) (hg : isB m k = false) :
  Calls Tryz.prog 30 #[.agg #[.bool n, .slice A l.length c], .agg #[.bool m, .slice B k.length d]] w (RQE w 0 0 3) := by
 have HL := Hi hl
 have HK := Hi hk
 have HN := Hi hn
 have HM := Hi hm
 clear hl hk hn hm
 have HF := Hi hf
 clear hf
 have HG := Hi hg
 clear hg
 obtain ⟨W1, hW1, hw1, x0, x1, x2⟩ := hdIIq w n A c l m B d k
 go_enter Tryz.func30, Tryz.ntmps30
 go_wp2_with fail
 rw [← hW1]
 clear hW1
 obtain ⟨C00, C01⟩ := x0.cs
 have r := RIs_any n A l.length c l W1 rfl HN.out (HL.out.below hw1)
 rw [HF.out] at r
 refine (r).mono ?_
 rintro e wa ⟨rfl, hb⟩
 clear C00 C01
 replace x0 := x0.below hb
 replace x1 := x1.below hb
 replace x2 := x2.below hb
 have hw1_ := bt hw1 hb
 clear hb hw1
 refine g0i1i ?_
 intros
 have r := RIs_any m B k.length d k wa rfl HM.out (HK.out.below hw1_)
 rw [HG.out] at r
 refine (r).mono ?_
 rintro e wb ⟨rfl, hb⟩
 replace x0 := x0.below hb
 replace x1 := x1.below hb
 replace x2 := x2.below hb
 have hw2_ := bt hw1_ hb
 clear hb hw1_
 obtain ⟨f0, f1, f2, f3⟩ := x2.fr
 obtain ⟨r0, r1, r2, r3⟩ := x2.cs
 go_wp2_with fail
 have z2 := x2.stored (.bool false) (.slice none 0 0) (.bool false) (.slice none 0 0)
 obtain ⟨k0, k1, k2, k3⟩ := z2.cs
 refine bodyPost_ret (v := .tuple #[.agg #[.bool false, .slice none 0 0, .bool false, .slice none 0 0], .int .i64 3]) (by simp [results, Tryz.results30, go_sem, k0, k1, k2, k3]) rfl ?_
 exact rqe_store (l := []) (k := []) hw2_ (by omega) x2 (iv0 _) (iv0 _)
theorem makes_any (hl : WS w A l) (hk : WS w B k) (hc : l.length ≤ c) (hd : k.length ≤ d) (hn : l.length ≤ 300) (hm : k.length ≤ 300) :
  ∃ x y er, (∀ W, Below w.heap.size w W → Calls Tryz.prog 29 #[.agg #[.bool n, .slice A l.length c], .agg #[.bool m, .slice B k.length d]] W (RQE W x y er)) ∧ (∀ W, Below w.heap.size w W → Calls Tryz.prog 30 #[.agg #[.bool n, .slice A l.length c], .agg #[.bool m, .slice B k.length d]] W (RQE W x y er)) := by
 have g1 : l.length ≤ 4000000 := by omega
 have g2 : k.length ≤ 4000000 := by omega
 cases h1 : isB n l
 ·exact ⟨0, 0, 3, fun W hb => Make_f1 (hl.below hb) (hk.below hb) g1 g2 h1, fun W hb => RMake_f1 (hl.below hb) (hk.below hb) g1 g2 h1⟩
 ·cases h2 : isB m k
  ·exact ⟨0, 0, 3, fun W hb => Make_f2 (hl.below hb) (hk.below hb) g1 g2 h1 h2, fun W hb => RMake_f2 (hl.below hb) (hk.below hb) g1 g2 h1 h2⟩
  ·have i1 : IV w n A c l (zI n l) := ⟨hc, hl, h1, rfl, hn⟩
   have i2 : IV w m B d k (zI m k) := ⟨hd, hk, h2, rfl, hm⟩
   rcases Int.lt_trichotomy (zI m k) 0 with h | h | h
   ·exact ⟨_, _, 0, fun W hb => Make_neg (i1.below hb) (i2.below hb) h, fun W hb => RMake_iv (i1.below hb) (i2.below hb) (by omega)⟩
   ·exact ⟨0, 0, 5, fun W hb => Make_zero (i1.below hb) (i2.below hb) h, fun W hb => RMake_zero (i1.below hb) (i2.below hb) h⟩
   ·exact ⟨_, _, 0, fun W hb => Make_pos (i1.below hb) (i2.below hb) h, fun W hb => RMake_iv (i1.below hb) (i2.below hb) (by omega)⟩
theorem ofs_any {i j : Int} (hi : -9223372036854775808 ≤ i ∧ i ≤ 9223372036854775807) (hj : -9223372036854775808 ≤ j ∧ j ≤ 9223372036854775807) :
  ∃ x y er, (∀ W, Calls Tryz.prog 27 #[.int .i64 i, .int .i64 j] W (RQE W x y er)) ∧ (∀ W, Calls Tryz.prog 28 #[.int .i64 i, .int .i64 j] W (RQE W x y er)) := by
 rcases Int.lt_trichotomy j 0 with h | h | h
 ·exact ⟨_, _, 0, fun W => QOf_neg W i j hi hj h, fun W => RQOf_iv W i j hi hj (by omega)⟩
 ·exact ⟨0, 0, 5, fun W => QOf_zero W i j hi hj h, fun W => RQOf_zero W i j hi hj h⟩
 ·exact ⟨_, _, 0, fun W => QOf_pos W i j hi hj h, fun W => RQOf_iv W i j hi hj (by omega)⟩
end Go.Proofs.YtgljdfblgpdaaaaGreatDoor
