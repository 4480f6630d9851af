import Derived.Test.YtgljdfblgpdaaaaGreatDoorTyRatO
import Derived.Test.YtgljdfblgpdaaaaGreatDoorTyRatTd
set_option linter.unusedSimpArgs false
set_option linter.unusedVariables false
set_option maxRecDepth 100000
set_option maxHeartbeats 4000000
namespace Go.Proofs.YtgljdfblgpdaaaaGreatDoor
open Go Go.RowKit Go.Shelf
def pan (er : Int) : List PanicEntry := [{ v := .iface 27 (.int .i64 er), recovered := false }]
theorem refuse_yes (w : World) (er : Int) : Calls Tryz.prog 160 #[.bool true, .int .i64 er] w fun e w' => e = .panicked (pan er) ∧ w' = w := by
  go_enter Tryz.func160, Tryz.ntmps160
  go_wp2
  exact ⟨rfl, rfl, rfl⟩
def RDX (w : World) (a b : ByteArray) (e : Ending) (w' : World) : Prop :=
  (rc2 a b = 0 ∧ RIQ w (txv a) (txv b) e w') ∨ (rc2 a b ≠ 0 ∧ e = .panicked (pan (rc2 a b)) ∧ Below w.heap.size w w')
set_option maxRecDepth 100000 in
set_option maxHeartbeats 4000000 in
theorem coprime_e {w : World} {n m : Bool} {A B : Option Addr} {c d : Nat} {l k : List Nat} {x y : Int} (h : IV w n A c l x) (h2 : IV w m B d k y) (hl : Lt 2100 ((Nat.gcd x.natAbs y.natAbs : Nat) : Int)) :
    Calls Tryz.prog 109 #[.agg #[.bool n, .slice A l.length c], .agg #[.bool m, .slice B k.length d]] w fun e w' => e = .returned (.bool (decide (((Nat.gcd x.natAbs y.natAbs : Nat) : Int) = 1))) ∧ Below w.heap.size w w' := by
  have H1 := Lib.hid h
  have H2 := Lib.hid h2
  have HL := Lib.hid hl
  clear h h2 hl
  obtain ⟨W1, hW1, hw1, x0, x1⟩ : ∃ W, W = (w.alloc (.cells #[.bool n, .slice A l.length c] 24)).alloc (.cells #[.bool m, .slice B k.length d] 24) ∧ Below w.heap.size w W ∧ Box2 W (w.heap.size) (.bool n) (.slice A l.length c) ∧ Box2 W (w.heap.size + 1) (.bool m) (.slice B k.length d) := by
    refine ⟨_, rfl, ba (ba (b0 _) _) _, ?_, ?_⟩
    · have h := Box2.new w (.bool n) (.slice A l.length c)
      exact (h.alloc _)
    · have h := Box2.new (w.alloc (.cells #[.bool n, .slice A l.length c] 24)) (.bool m) (.slice B k.length d)
      rw [World.size_alloc] at h
      exact h
  go_enter Tryz.func109, Tryz.ntmps109
  go_wp2_with fail
  rw [← hW1]
  clear hW1
  have c_x0_0 := x0.cell0
  have c_x0_1 := x0.cell1
  have c_x1_0 := x1.cell0
  have c_x1_1 := x1.cell1
  go_wp2_with fail
  refine (Gcd_iv (H1.out.below hw1) (H2.out.below hw1) rfl HL.out).mono ?_
  rintro e wa ⟨n1, A1, c1, l1, rfl, i1, hb⟩
  clear c_x0_0 c_x0_1 c_x1_0 c_x1_1
  replace x0 := x0.below hb
  replace x1 := x1.below hb
  have hw1_ := bt hw1 hb
  clear hb hw1 
  have HI1 := Lib.hid i1
  clear i1
  go_wp2_with fail
  refine (isOne_iv HI1.out).mono ?_
  rintro e wb ⟨rfl, hb⟩
  replace x0 := x0.below hb
  replace x1 := x1.below hb
  replace HI1 := Lib.hid (HI1.out.below hb)
  have hw2_ := bt hw1_ hb
  clear hb hw1_ 
  go_wp2_with fail
  go_ret
  exact ⟨rfl, hw2_⟩
set_option maxRecDepth 100000 in
set_option maxHeartbeats 4000000 in
theorem read_any (w : World) (s top bot : ByteArray) (k : Nat) (hk : Lib.indexByte s.data.toList 47 = (k : Int)) (hks : k < s.size) (hs : s.size ≤ 60000) (ht : top = s.extract 0 k) (hbt : bot = s.extract (k + 1) s.size) (hT : Tens w) :
    Calls Tryz.prog 121 #[.string s] w (RDX w top bot) := by
  have HTN := Lib.hid hT
  have HK := Lib.hid hk
  clear hT hk
  obtain ⟨W1, hW1, hw1, x0⟩ := hdq w
  go_enter Tryz.func121, Tryz.ntmps121
  go_wp2_with fail
  rw [← hW1]
  clear hW1
  go_wp2_with fail
  refine (SCut_yes _ s 47 k HK.out hks (by omega)).mono ?_
  rintro e w2 ⟨rfl, hb⟩
  replace x0 := x0.below hb
  have hw2 := bt hw1 hb
  clear hb hw1
  rw [← ht, ← hbt]
  have HS := Lib.hid (show top.size ≤ 60000 ∧ bot.size ≤ 60000 by rw [ht, hbt]; simp; omega)
  clear ht hbt hs hks
  obtain ⟨e1, he1⟩ : ∃ v, v = txe top := ⟨_, rfl⟩
  obtain ⟨e2, he2⟩ : ∃ v, v = txe bot := ⟨_, rfl⟩
  have HE1 := Lib.hid he1
  have HE2 := Lib.hid he2
  go_wp2_with fail
  refine (Parse_pir HS.out.1 (HTN.out.below hw2)).mono ?_
  rintro e w3 ⟨n1, A1, c1, l1, rfl, i1, hb⟩
  rw [← he1]
  clear he1
  replace x0 := x0.below hb
  have hw3 := bt hw2 hb
  clear hb hw2
  have J1 := Lib.hid i1
  clear i1
  go_upto_region 7 with fail
  obtain ⟨w4, hw⟩ : ∃ W, W = w3.alloc (.cells #[.bool n1, .slice A1 l1.length c1] 24) := ⟨_, rfl⟩
  have xn : Box2 w4 w3.heap.size (.bool n1) (.slice A1 l1.length c1) := by rw [hw]; exact Box2.new _ _ _
  have hb : Below w3.heap.size w3 w4 := by rw [hw]; exact ba (b0 _) _
  rw [← hw]
  clear hw
  replace x0 := x0.below hb
  replace J1 := Lib.hid (J1.out.below hb)
  have hw4 := bt hw3 hb
  clear hb hw3
  go_wp2_with fail
  refine (Parse_pir HS.out.2 (HTN.out.below hw4)).mono ?_
  rintro e w5 ⟨n2, A2, c2, l2, rfl, i2, hb⟩
  rw [← he2]
  clear he2
  replace x0 := x0.below hb
  replace xn := xn.below hb
  replace J1 := Lib.hid (J1.out.below hb)
  have hw5 := bt hw4 hb
  clear hb hw4
  have J2 := Lib.hid i2
  clear i2
  go_upto_region 8 with fail
  obtain ⟨w6, hw⟩ : ∃ W, W = w5.alloc (.cells #[.bool n2, .slice A2 l2.length c2] 24) := ⟨_, rfl⟩
  have xd : Box2 w6 w5.heap.size (.bool n2) (.slice A2 l2.length c2) := by rw [hw]; exact Box2.new _ _ _
  have hb : Below w5.heap.size w5 w6 := by rw [hw]; exact ba (b0 _) _
  rw [← hw]
  clear hw
  replace x0 := x0.below hb
  replace xn := xn.below hb
  replace J1 := Lib.hid (J1.out.below hb)
  replace J2 := Lib.hid (J2.out.below hb)
  have hw6 := bt hw5 hb
  clear hb hw5
  by_cases a1 : e1 = 3
  · have g1 : (e1 == 3) = true := beq_iff_eq.2 a1
    have HA := Lib.hid a1
    clear a1
    go_wp2_with fail
    refine (refuse_yes _ _).mono ?_
    rintro e wr ⟨rfl, rfl⟩
    go_wp2_with fail
    exact ⟨rfl, .inr (by rw [show rc2 top bot = 3 from by unfold rc2; rw [if_pos (.inl (HE1.out.symm.trans HA.out))]]; exact ⟨by decide, rfl, hw6⟩)⟩
  have g1 : (e1 == 3) = false := beq_eq_false_iff_ne.2 a1
  have HA1 := Lib.hid a1
  clear a1
  by_cases a2 : e2 = 3
  · have g2 : (e2 == 3) = true := beq_iff_eq.2 a2
    have HA := Lib.hid a2
    clear a2
    go_wp2_with fail
    refine (refuse_yes _ _).mono ?_
    rintro e wr ⟨rfl, rfl⟩
    go_wp2_with fail
    exact ⟨rfl, .inr (by rw [show rc2 top bot = 3 from by unfold rc2; rw [if_pos (.inr (HE2.out.symm.trans HA.out))]]; exact ⟨by decide, rfl, hw6⟩)⟩
  have g2 : (e2 == 3) = false := beq_eq_false_iff_ne.2 a2
  have HA2 := Lib.hid a2
  clear a2
  go_wp2_with fail
  refine (refuse_no _ _).mono ?_
  rintro e wr1 ⟨rfl, rfl⟩
  have HN3 : Hid (¬ (txe top = 3 ∨ txe bot = 3)) := Lib.hid (fun h => h.elim (fun h => HA1.out (HE1.out.trans h)) (fun h => HA2.out (HE2.out.trans h)))
  by_cases b48 : bot.toList = [48]
  · have HB : Hid (dbad bot = true) := Lib.hid (by unfold dbad; rw [b48]; rfl)
    go_wp2_with fail
    refine (refuse_yes _ _).mono ?_
    rintro e wr ⟨rfl, rfl⟩
    go_wp2_with fail
    exact ⟨rfl, .inr (by rw [show rc2 top bot = 3 from by unfold rc2; rw [if_neg HN3.out, if_pos HB.out]]; exact ⟨by decide, rfl, hw6⟩)⟩
  by_cases b49 : bot.toList = [49]
  · have HB : Hid (dbad bot = true) := Lib.hid (by unfold dbad; rw [b49]; rfl)
    go_wp2_with fail
    refine (refuse_yes _ _).mono ?_
    rintro e wr ⟨rfl, rfl⟩
    go_wp2_with fail
    exact ⟨rfl, .inr (by rw [show rc2 top bot = 3 from by unfold rc2; rw [if_neg HN3.out, if_pos HB.out]]; exact ⟨by decide, rfl, hw6⟩)⟩
  go_wp2_with fail
  refine (Tryz.strings_HasPrefix _ _ _).mono ?_
  rintro e wr2 ⟨rfl, rfl⟩
  rw [show (⟨#[45]⟩ : ByteArray).data.toList = [45] from rfl]
  have h489 : (bot.toList == [48] || bot.toList == [49]) = false := by rw [beq_eq_false_iff_ne.2 b48, beq_eq_false_iff_ne.2 b49]; rfl
  have HH : Hid (dbad bot = Lib.hasPrefix bot.data.toList [45]) := Lib.hid (by unfold dbad; rw [h489, Bool.false_or])
  obtain ⟨pb, hpb⟩ : ∃ b, b = Lib.hasPrefix bot.data.toList [45] := ⟨_, rfl⟩
  rw [← hpb] at HH ⊢
  clear hpb
  go_wp2_with fail
  try rw [h489]
  clear h489 b48 b49
  cases pb
  rotate_left
  · refine (refuse_yes _ _).mono ?_
    rintro e wr ⟨rfl, rfl⟩
    go_wp2_with fail
    exact ⟨rfl, .inr (by rw [show rc2 top bot = 3 from by unfold rc2; rw [if_neg HN3.out, if_pos HH.out]]; exact ⟨by decide, rfl, hw6⟩)⟩
  refine (refuse_no _ _).mono ?_
  rintro e wr3 ⟨rfl, rfl⟩
  have HNP : Hid (¬ dbad bot = true) := Lib.hid (by rw [HH.out]; decide)
  by_cases a3 : e1 = 0
  rotate_left
  · have g3 : (e1 == 0) = false := beq_eq_false_iff_ne.2 a3
    have g3n : (e1 != 0) = true := bne_iff_ne.2 a3
    have HA := Lib.hid a3
    clear a3
    go_wp2_with fail
    refine (refuse_yes _ _).mono ?_
    rintro e wr ⟨rfl, rfl⟩
    go_wp2_with fail
    exact ⟨rfl, .inr (by rw [show rc2 top bot = 2 from by unfold rc2; rw [if_neg HN3.out, if_neg HNP.out, if_neg (fun h => HA.out (HE1.out.trans h.1))]]; exact ⟨by decide, rfl, hw6⟩)⟩
  have g3 : (e1 == 0) = true := beq_iff_eq.2 a3
  have g3n : (e1 != 0) = false := bne_eq_false_iff_eq.2 a3
  have HA3 := Lib.hid a3
  clear a3
  by_cases a4 : e2 = 0
  rotate_left
  · have g4 : (e2 == 0) = false := beq_eq_false_iff_ne.2 a4
    have g4n : (e2 != 0) = true := bne_iff_ne.2 a4
    have HA := Lib.hid a4
    clear a4
    go_wp2_with fail
    refine (refuse_yes _ _).mono ?_
    rintro e wr ⟨rfl, rfl⟩
    go_wp2_with fail
    exact ⟨rfl, .inr (by rw [show rc2 top bot = 2 from by unfold rc2; rw [if_neg HN3.out, if_neg HNP.out, if_neg (fun h => HA.out (HE2.out.trans h.2))]]; exact ⟨by decide, rfl, hw6⟩)⟩
  have g4 : (e2 == 0) = true := beq_iff_eq.2 a4
  have g4n : (e2 != 0) = false := bne_eq_false_iff_eq.2 a4
  have HA4 := Lib.hid a4
  clear a4
  go_wp2_with fail
  refine (refuse_no _ _).mono ?_
  rintro e wr4 ⟨rfl, rfl⟩
  have HRC : Hid (rc2 top bot = if Nat.gcd (txv top).natAbs (txv bot).natAbs = 1 then 0 else 3) := Lib.hid (by unfold rc2; rw [if_neg HN3.out, if_neg HNP.out, if_pos ⟨HE1.out.symm.trans HA3.out, HE2.out.symm.trans HA4.out⟩])
  have HG : Hid (Lt 2100 ((Nat.gcd (txv top).natAbs (txv bot).natAbs : Nat) : Int)) := Lib.hid (by
    by_cases hz : txv bot = 0
    · rw [hz]
      have h := lt_le (lt_val J1.out.ws J1.out.val) J1.out.len
      unfold Lt at h ⊢
      simpa using h
    · have h := lt_le (lt_val J2.out.ws J2.out.val) J2.out.len
      have h2 : Nat.gcd (txv top).natAbs (txv bot).natAbs ≤ (txv bot).natAbs := Nat.gcd_le_right _ (by omega)
      unfold Lt at h ⊢
      rw [Int.natAbs_natCast]
      omega)
  obtain ⟨c_xn_0, c_xn_1⟩ : _ ∧ _ := ⟨xn.cell0, xn.cell1⟩
  obtain ⟨c_xd_0, c_xd_1⟩ : _ ∧ _ := ⟨xd.cell0, xd.cell1⟩
  clear g1 g2 g3 g4 g3n g4n
  go_wp2_with fail
  refine (coprime_e J1.out J2.out HG.out).mono ?_
  rintro e w8 ⟨rfl, hb⟩
  clear c_xn_0 c_xn_1 c_xd_0 c_xd_1
  replace x0 := x0.below hb
  replace xn := xn.below hb
  replace xd := xd.below hb
  replace J1 := Lib.hid (J1.out.below hb)
  replace J2 := Lib.hid (J2.out.below hb)
  have hw8 := bt hw6 hb
  clear hb hw6
  obtain ⟨cg, hcg⟩ : ∃ b, b = decide (((Nat.gcd (txv top).natAbs (txv bot).natAbs : Nat) : Int) = 1) := ⟨_, rfl⟩
  rw [← hcg]
  have HCG := Lib.hid hcg
  clear hcg
  cases cg
  · go_wp2_with fail
    refine (refuse_yes _ _).mono ?_
    rintro e wr ⟨rfl, rfl⟩
    go_wp2_with fail
    exact ⟨rfl, .inr (by rw [show rc2 top bot = 3 from by rw [HRC.out]; exact if_neg (fun h => by have := of_decide_eq_false HCG.out.symm; omega)]; exact ⟨by decide, rfl, hw8⟩)⟩
  go_wp2_with fail
  refine (refuse_no _ _).mono ?_
  rintro e wr5 ⟨rfl, rfl⟩
  have HZ : Hid (rc2 top bot = 0) := Lib.hid (by rw [HRC.out]; exact if_pos (by have := of_decide_eq_true HCG.out.symm; omega))
  obtain ⟨c_xn_0, c_xn_1⟩ : _ ∧ _ := ⟨xn.cell0, xn.cell1⟩
  obtain ⟨c_xd_0, c_xd_1⟩ : _ ∧ _ := ⟨xd.cell0, xd.cell1⟩
  obtain ⟨f0, f1, f2, f3⟩ := x0.fr
  obtain ⟨r0, r1, r2, r3⟩ := x0.cs
  go_wp2_with fail
  have z2 := x0.stored (.bool n1) (.slice A1 l1.length c1) (.bool n2) (.slice A2 l2.length c2)
  obtain ⟨k0, k1, k2, k3⟩ := z2.cs
  refine bodyPost_ret (v := .agg #[.bool n1, .slice A1 l1.length c1, .bool n2, .slice A2 l2.length c2]) (by simp [results, Tryz.results121, go_sem, k0, k1, k2, k3]) rfl ?_
  exact .inl ⟨HZ.out, riq_store hw8 (by omega) x0 J1.out J2.out⟩
def RDN (w : World) (s : ByteArray) (e : Ending) (w' : World) : Prop :=
  (txe s = 0 ∧ RIQ w (txv s) 1 e w') ∨ (txe s ≠ 0 ∧ e = .panicked (pan (txe s)) ∧ Below w.heap.size w w')
set_option maxRecDepth 100000 in
set_option maxHeartbeats 4000000 in
theorem read_none (w : World) (s : ByteArray) (hk : Lib.indexByte s.data.toList 47 = -1) (hs : s.size ≤ 60000) (hT : Tens w) :
    Calls Tryz.prog 121 #[.string s] w (RDN w s) := by
  have HTN := Lib.hid hT
  have HK := Lib.hid hk
  clear hT hk
  obtain ⟨W1, hW1, hw1, x0⟩ := hdq w
  go_enter Tryz.func121, Tryz.ntmps121
  go_wp2_with fail
  rw [← hW1]
  clear hW1
  go_wp2_with fail
  refine (SCut_no _ s 47 HK.out).mono ?_
  rintro e w2 ⟨rfl, hb⟩
  replace x0 := x0.below hb
  have hw2 := bt hw1 hb
  clear hb hw1
  obtain ⟨e1, he1⟩ : ∃ v, v = txe s := ⟨_, rfl⟩
  have HE1 := Lib.hid he1
  go_wp2_with fail
  refine (Parse_pir hs (HTN.out.below hw2)).mono ?_
  rintro e w3 ⟨n1, A1, c1, l1, rfl, i1, hb⟩
  rw [← he1]
  clear he1
  replace x0 := x0.below hb
  have hw3 := bt hw2 hb
  clear hb hw2
  have J1 := Lib.hid i1
  clear i1
  go_upto_region 4 with fail
  obtain ⟨w3b, hw⟩ : ∃ W, W = w3.alloc (.cells #[.bool n1, .slice A1 l1.length c1] 24) := ⟨_, rfl⟩
  have xn : Box2 w3b w3.heap.size (.bool n1) (.slice A1 l1.length c1) := by rw [hw]; exact Box2.new _ _ _
  have hb : Below w3.heap.size w3 w3b := by rw [hw]; exact ba (b0 _) _
  rw [← hw]
  clear hw
  replace x0 := x0.below hb
  replace J1 := Lib.hid (J1.out.below hb)
  have hw3b := bt hw3 hb
  clear hb hw3
  by_cases a1 : e1 = 0
  rotate_left
  · have g1 : (e1 == 0) = false := beq_eq_false_iff_ne.2 a1
    have g2 : (e1 != 0) = true := bne_iff_ne.2 a1
    have HA := Lib.hid a1
    clear a1
    go_wp2_with fail
    try rw [g2]
    refine (refuse_yes _ _).mono ?_
    rintro e wr ⟨rfl, rfl⟩
    go_wp2_with fail
    exact ⟨rfl, .inr ⟨fun h => HA.out (HE1.out.trans h), by rw [← HE1.out], hw3b⟩⟩
  have g1 : (e1 == 0) = true := beq_iff_eq.2 a1
  have g2 : (e1 != 0) = false := bne_eq_false_iff_eq.2 a1
  have HA := Lib.hid a1
  clear a1
  go_wp2_with fail
  try rw [g2]
  refine (refuse_no _ _).mono ?_
  rintro e wr1 ⟨rfl, rfl⟩
  clear g1 g2
  obtain ⟨c_xn_0, c_xn_1⟩ : _ ∧ _ := ⟨xn.cell0, xn.cell1⟩
  go_wp2_with fail
  refine (QWhole_iv J1.out).mono ?_
  rintro e w4 ⟨n2, A2, c2, l2, m2, B2, d2, k2, rfl, i2, j2, hb⟩
  replace x0 := x0.below hb
  have hw4 := bt hw3b hb
  clear hb hw3b c_xn_0 c_xn_1
  obtain ⟨f0, f1, f2, f3⟩ := x0.fr
  obtain ⟨r0, r1, r2, r3⟩ := x0.cs
  have J2 := Lib.hid i2
  have J3 := Lib.hid j2
  clear i2 j2
  go_wp2_with fail
  have z2 := x0.stored (.bool n2) (.slice A2 l2.length c2) (.bool m2) (.slice B2 k2.length d2)
  obtain ⟨k0, k1, k2', k3⟩ := z2.cs
  refine bodyPost_ret (v := .agg #[.bool n2, .slice A2 l2.length c2, .bool m2, .slice B2 k2.length d2]) (by simp [results, Tryz.results121, go_sem, k0, k1, k2', k3]) rfl ?_
  exact .inl ⟨HE1.out.symm.trans HA.out, riq_store hw4 (by omega) x0 J2.out J3.out⟩
set_option maxRecDepth 100000 in
set_option maxHeartbeats 4000000 in
theorem catch_yes (p q : Nat) (er : Int) {x0 x1 x2 x3 y0 : Value} (w : World) (hp : Box4 w p x0 x1 x2 x3) (hq : Cells w q 27 #[y0]) (hpq : p < q) :
    CallsD Tryz.prog 120 #[.pointer (some ⟨p, 0, none⟩), .pointer (some ⟨q, 0, none⟩)] (.panicking (pan er)) w fun e u' w' => e = .returned (.tuple #[]) ∧ u' = .panicking [{ v := .iface 27 (.int .i64 er), recovered := true }] ∧
      w' = ((((w.setCell ⟨p, 0, none⟩ (.bool false)).setCell ⟨p, 1, none⟩ (.slice none 0 0)).setCell ⟨p, 2, none⟩ (.bool false)).setCell ⟨p, 3, none⟩ (.slice none 0 0)).setCell ⟨q, 0, none⟩ (.int .i64 er) := by
  have e0 := Cells.at_ hq 0
  simp at e0
  have e1 := Cells.free hq 0
  obtain ⟨f0, f1, f2, f3⟩ := hp.fr
  obtain ⟨r0, r1, r2, r3⟩ := hp.cs
  refine callsD_of_wpS Tryz.func120 rfl fun c₀ cs hu => ?_
  have hta : ∀ (xT : TypeId) w, (Instr.typeAssert (.iface 27 (.int .i64 er)) xT 27 true).run Tryz.prog w = .ok (.tuple #[.int .i64 er, .bool true]) w := fun _ w => by first | rfl | kernel_rfl
  apply wpS_seq
  apply wpS_region
  simp [wpOpsS, go_sem, recoverD, hu, pan, Tryz.ntmps120, Exit.thenS, hta]
  apply wpS_seq
  apply wpS_region
  simp [wpOpsS, go_sem, Exit.thenS]
  refine wpS_cond (t := true) (by simp [Act.eval, Array.replicate]) ?_
  simp only [if_true]
  have n1 : ¬ p = q := by omega
  have n2 : ¬ q = p := by omega
  apply wpS_region
  simp [wpOpsS, go_sem, bodyPostS, results, Tryz.results120, r0, r1, r2, r3, f0, f1, f2, f3, e0, e1, n1, n2]
set_option maxRecDepth 100000 in
set_option maxHeartbeats 4000000 in
theorem QParse_ok {w : World} {s : ByteArray} {x y : Int} (H : Hid (∀ W, Below w.heap.size w W → Calls Tryz.prog 121 #[.string s] W (RIQ W x y))) :
    Calls Tryz.prog 64 #[.string s] w (RQE w x y 0) := by
  have hmf : ∀ (fn : Fn) (first cap : Array Value) (w : World), (Instr.makeFunc fn first cap).run Tryz.prog w = .ok (.func fn first cap) w := fun _ _ _ _ => rfl
  go_enter_defers Tryz.func64, Tryz.ntmps64
  go_wp2_with fail
  obtain ⟨W1, hW1⟩ : ∃ W, W = ((w.alloc (.cells #[.bool false, .slice none 0 0, .bool false, .slice none 0 0] 35)).alloc (.cells #[.int .i64 0] 27)) := ⟨_, rfl⟩
  have hw1 : Below w.heap.size w W1 := by rw [hW1]; exact ba (ba (b0 _) _) _
  have x0 : Box4 W1 w.heap.size (.bool false) (.slice none 0 0) (.bool false) (.slice none 0 0) := by rw [hW1]; exact (Box4.new w _ _ _ _).alloc _
  have x1 : Cells W1 (w.heap.size + 1) 27 #[.int .i64 0] := by
    rw [hW1]
    have h := Cells.new (w.alloc (.cells #[.bool false, .slice none 0 0, .bool false, .slice none 0 0] 35)) 27 #[.int .i64 0]
    rw [World.size_alloc] at h
    exact h
  rw [← hW1]
  clear hW1
  refine (H.out W1 hw1).mono ?_
  rintro e w2 ⟨n, A, c, l, m, B, d, k2, rfl, i1, i2, hb⟩
  replace x0 := x0.below hb
  replace x1 := x1.below hb
  have hw2 := bt hw1 hb
  clear hb hw1 H
  have c0 := x0.cell0
  have c1 := x0.cell1
  have c2 := x0.cell2
  have c3 := x0.cell3
  have f0 := x0.free 0
  have f1 := x0.free 1
  have f2 := x0.free 2
  have f3 := x0.free 3
  have e0 := Cells.at_ x1 0
  simp at e0
  have e1 := Cells.free x1 0
  go_wp2_with fail
  obtain ⟨W3, hW3⟩ : ∃ W, W = ((((w2.setCell ⟨w.heap.size, 0, none⟩ (.bool n)).setCell ⟨w.heap.size, 1, none⟩ (.slice A l.length c)).setCell ⟨w.heap.size, 2, none⟩ (.bool m)).setCell ⟨w.heap.size, 3, none⟩ (.slice B k2.length d)) := ⟨_, rfl⟩
  have z0 : Box4 W3 w.heap.size (.bool n) (.slice A l.length c) (.bool m) (.slice B k2.length d) := by rw [hW3]; exact x0.stored _ _ _ _
  have z1 : Cells W3 (w.heap.size + 1) 27 #[.int .i64 0] := by rw [hW3]; exact (((Cells.far x1 (by omega) 0 _).far (by omega) 1 _).far (by omega) 2 _).far (by omega) 3 _
  have j1 : IV W3 n A c l x := by rw [hW3]; exact i1.four x0 _ _ _ _
  have j2 : IV W3 m B d k2 y := by rw [hW3]; exact i2.four x0 _ _ _ _
  have hw3 : Below w.heap.size w W3 := by rw [hW3]; exact b4 hw2 (Nat.le_refl _) _ _ _ _
  rw [← hW3]
  clear hW3 c0 c1 c2 c3 f0 f1 f2 f3 e0 e1
  obtain ⟨W4, hW4⟩ : ∃ W, W = W3.setCell ⟨w.heap.size + 1, 0, none⟩ (.int .i64 0) := ⟨_, rfl⟩
  have hO : Only (w.heap.size + 1) W3 W4 := by rw [hW4]; exact (only_refl (w.heap.size + 1) W3).set_ (.inl rfl) _
  have y0 : Box4 W4 w.heap.size (.bool n) (.slice A l.length c) (.bool m) (.slice B k2.length d) := Cells.only z0 hO (by omega)
  have y1 : Cells W4 (w.heap.size + 1) 27 #[.int .i64 0] := by rw [hW4]; exact Cells.set_ z1 0 _
  have q1 : IV W4 n A c l x := ⟨j1.cap, j1.ws.only hO (ws_off_i j1.ws z1), j1.can, j1.val, j1.len⟩
  have q2 : IV W4 m B d k2 y := ⟨j2.cap, j2.ws.only hO (ws_off_i j2.ws z1), j2.can, j2.val, j2.len⟩
  have hw4 : Below w.heap.size w W4 := by rw [hW4]; exact bs (p := ⟨w.heap.size + 1, 0, none⟩) hw3 (Nat.le_succ _) _
  rw [← hW4]
  clear hW4 hO z0 z1 j1 j2 hw3 x0 x1 i1 i2 hw2
  refine leaves_cons (f := 120) (args := #[.pointer (some ⟨w.heap.size, 0, none⟩), .pointer (some ⟨w.heap.size + 1, 0, none⟩)]) (by simp) (by simp [go_sem]) ?_
  refine (catch_no _ _ _).mono ?_
  rintro e u' w5 ⟨rfl, rfl, rfl⟩
  have c0 := y0.cell0
  have c1 := y0.cell1
  have c2 := y0.cell2
  have c3 := y0.cell3
  have e0 := Cells.at_ y1 0
  simp at e0
  simp [Leaves, settle, results, Tryz.results64, go_sem, c0, c1, c2, c3, e0]
  exact ⟨n, A, c, l, m, B, d, k2, rfl, q1, q2, hw4⟩
set_option maxRecDepth 100000 in
set_option maxHeartbeats 4000000 in
theorem QParse_bad {w : World} {s : ByteArray} {er : Int} (H : Hid (∀ W, Below w.heap.size w W → Calls Tryz.prog 121 #[.string s] W (fun e w' => e = .panicked (pan er) ∧ Below W.heap.size W w'))) :
    Calls Tryz.prog 64 #[.string s] w (RQE w 0 0 er) := by
  have hmf : ∀ (fn : Fn) (first cap : Array Value) (w : World), (Instr.makeFunc fn first cap).run Tryz.prog w = .ok (.func fn first cap) w := fun _ _ _ _ => rfl
  go_enter_defers Tryz.func64, Tryz.ntmps64
  go_wp2_with fail
  obtain ⟨W1, hW1⟩ : ∃ W, W = ((w.alloc (.cells #[.bool false, .slice none 0 0, .bool false, .slice none 0 0] 35)).alloc (.cells #[.int .i64 0] 27)) := ⟨_, rfl⟩
  have hw1 : Below w.heap.size w W1 := by rw [hW1]; exact ba (ba (b0 _) _) _
  have x0 : Box4 W1 w.heap.size (.bool false) (.slice none 0 0) (.bool false) (.slice none 0 0) := by rw [hW1]; exact (Box4.new w _ _ _ _).alloc _
  have x1 : Cells W1 (w.heap.size + 1) 27 #[.int .i64 0] := by
    rw [hW1]
    have h := Cells.new (w.alloc (.cells #[.bool false, .slice none 0 0, .bool false, .slice none 0 0] 35)) 27 #[.int .i64 0]
    rw [World.size_alloc] at h
    exact h
  rw [← hW1]
  clear hW1
  refine (H.out W1 hw1).mono ?_
  rintro e w2 ⟨rfl, hb⟩
  replace x0 := x0.below hb
  replace x1 : Cells w2 (w.heap.size + 1) 27 #[.int .i64 0] := x1.below hb
  have hw2 := bt hw1 hb
  clear hb hw1 H
  go_wp2_with fail
  refine leaves_cons (f := 120) (args := #[.pointer (some ⟨w.heap.size, 0, none⟩), .pointer (some ⟨w.heap.size + 1, 0, none⟩)]) (by simp) (by simp [go_sem]) ?_
  refine (catch_yes w.heap.size (w.heap.size + 1) er w2 x0 x1 (by omega)).mono ?_
  rintro e u' w5 ⟨rfl, rfl, rfl⟩
  obtain ⟨W3, hW3⟩ : ∃ W, W = ((((w2.setCell ⟨w.heap.size, 0, none⟩ (.bool false)).setCell ⟨w.heap.size, 1, none⟩ (.slice none 0 0)).setCell ⟨w.heap.size, 2, none⟩ (.bool false)).setCell ⟨w.heap.size, 3, none⟩ (.slice none 0 0)) := ⟨_, rfl⟩
  have z0 : Box4 W3 w.heap.size (.bool false) (.slice none 0 0) (.bool false) (.slice none 0 0) := by rw [hW3]; exact x0.stored _ _ _ _
  have z1 : Cells W3 (w.heap.size + 1) 27 #[.int .i64 0] := by rw [hW3]; exact (((Cells.far x1 (by omega) 0 _).far (by omega) 1 _).far (by omega) 2 _).far (by omega) 3 _
  have hw3 : Below w.heap.size w W3 := by rw [hW3]; exact b4 hw2 (Nat.le_refl _) _ _ _ _
  rw [← hW3]
  clear hW3 x0 x1 hw2
  obtain ⟨W4, hW4⟩ : ∃ W, W = W3.setCell ⟨w.heap.size + 1, 0, none⟩ (.int .i64 er) := ⟨_, rfl⟩
  have hO : Only (w.heap.size + 1) W3 W4 := by rw [hW4]; exact (only_refl (w.heap.size + 1) W3).set_ (.inl rfl) _
  have y0 : Box4 W4 w.heap.size (.bool false) (.slice none 0 0) (.bool false) (.slice none 0 0) := Cells.only z0 hO (by omega)
  have y1 : Cells W4 (w.heap.size + 1) 27 #[.int .i64 er] := by rw [hW4]; exact Cells.set_ z1 0 _
  have hw4 : Below w.heap.size w W4 := by rw [hW4]; exact bs (p := ⟨w.heap.size + 1, 0, none⟩) hw3 (Nat.le_succ _) _
  rw [← hW4]
  clear hW4 hO z0 z1 hw3
  have c0 := y0.cell0
  have c1 := y0.cell1
  have c2 := y0.cell2
  have c3 := y0.cell3
  have e0 := Cells.at_ y1 0
  simp at e0
  simp [Leaves, settle, results, Tryz.results64, go_sem, c0, c1, c2, c3, e0]
  exact rqe_none er hw4
theorem QParse_any (w : World) (s : ByteArray) (hs : s.size ≤ 60000) (hT : Tens w) :
    Calls Tryz.prog 64 #[.string s] w (RDY w s) := by
  rcases (show (Lib.indexByte s.data.toList 47) < 0 ∨ 0 ≤ (Lib.indexByte s.data.toList 47) by omega) with h | h
  · have hk : Lib.indexByte s.data.toList 47 = -1 := by have := Lib.indexByte_ge s.data.toList 47; omega
    by_cases h0 : txe s = 0
    · refine (QParse_ok (x := txv s) (y := 1) (Lib.hid fun W hW => (read_none W s hk hs (hT.below hW)).mono fun e w' hr => ?_)).mono fun e w' hr => .inl ⟨hk, .inl ⟨h0, hr⟩⟩
      rcases hr with hr | hr
      · exact hr.2
      · exact absurd h0 hr.1
    · refine (QParse_bad (er := txe s) (Lib.hid fun W hW => (read_none W s hk hs (hT.below hW)).mono fun e w' hr => ?_)).mono fun e w' hr => .inl ⟨hk, .inr ⟨h0, hr⟩⟩
      rcases hr with hr | hr
      · exact absurd hr.1 h0
      · exact hr.2
  · obtain ⟨k, hk⟩ : ∃ k : Nat, Lib.indexByte s.data.toList 47 = k := ⟨(Lib.indexByte s.data.toList 47).toNat, by omega⟩
    have hks : k < s.size := by simpa using (List.getElem?_eq_some_iff.1 (Lib.indexByte_some hk).1).1
    by_cases h0 : rc2 (s.extract 0 k) (s.extract (k + 1) s.size) = 0
    · refine (QParse_ok (x := txv (s.extract 0 k)) (y := txv (s.extract (k + 1) s.size)) (Lib.hid fun W hW => (read_any W s _ _ k hk hks hs rfl rfl (hT.below hW)).mono fun e w' hr => ?_)).mono fun e w' hr => .inr ⟨k, _, _, hk, rfl, rfl, .inl ⟨h0, hr⟩⟩
      rcases hr with hr | hr
      · exact hr.2
      · exact absurd h0 hr.1
    · refine (QParse_bad (er := rc2 (s.extract 0 k) (s.extract (k + 1) s.size)) (Lib.hid fun W hW => (read_any W s _ _ k hk hks hs rfl rfl (hT.below hW)).mono fun e w' hr => ?_)).mono fun e w' hr => .inr ⟨k, _, _, hk, rfl, rfl, .inr ⟨h0, hr⟩⟩
      rcases hr with hr | hr
      · exact absurd hr.1 h0
      · exact hr.2
end Go.Proofs.YtgljdfblgpdaaaaGreatDoor
