import Derived.Test.YtgljdfblgpdaaaaGreatDoorTyRatTd
set_option linter.unusedSimpArgs false
set_option linter.unusedVariables false
set_option maxRecDepth 100000
set_option maxHeartbeats 4000000
namespace Go.Proofs.YtgljdfblgpdaaaaGreatDoor
open Go Go.RowKit
section
variable {P : Program} {ops : Array Oper} {Q : Exit → Act → World → Prop} {md : Region.Mode} {S : World → Prop}
theorem tu (i : Nat) {oi : Oper} {fuel : Nat} {L L' : Array Bool} {a a' : Act} {w : World} (h : wpAnyH P md ops Q S fuel L' a' w) (hi : ops[i]? = some oi := by rfl)
    (hs : Region.noSelect ops = true := by kernel_rfl) (hf : Region.free md ops L i = true := by kernel_rfl) (hr : (Region.ready md ops L).contains i = true := by kernel_rfl)
    (hQ : ∀ c a w, Q (.panic c) (a.put oi.dst undef) w → Q (.panic c) a w := by exact fun _ _ _ h => h) (hw : Region.wanted oi (yielded ops a.tmps) = false := by rfl) (hS : S w := by assumption)
    (ha : a.put oi.dst undef = a' := by (try simp only [Act.put, List.getElem_toArray, List.getElem_cons_zero, List.getElem_cons_succ, List.setIfInBounds_toArray, List.set_cons_zero, List.set_cons_succ]); all_goals rfl)
    (hL : L.setIfInBounds i true = L' := by (try simp only [List.setIfInBounds_toArray, List.set_cons_zero, List.set_cons_succ]); all_goals rfl) : wpAnyH P md ops Q S (fuel + 1) L a w := by
  subst ha hL
  exact wpAnyH_take hi hs hf hr hQ (Or.inr ⟨hw, rfl⟩) hS h
end
open Go Go.RowKit Go.Shelf
set_option maxRecDepth 100000 in
set_option maxHeartbeats 4000000 in
theorem RQParse_any (w : World) (s : ByteArray) (hs : s.size ≤ 60000) :
    Calls Tryz.prog 65 #[.string s] w (RDY w s) := by
  obtain ⟨W1, hW1, hw1, x0⟩ : ∃ W, W = w.alloc (.cells #[.bool false, .slice none 0 0, .bool false, .slice none 0 0] 35) ∧ Below w.heap.size w W ∧ Box4 W (w.heap.size) (.bool false) (.slice none 0 0) (.bool false) (.slice none 0 0) := by
    refine ⟨_, rfl, ba (b0 _) _, ?_⟩
    · have h := Box4.new w (.bool false) (.slice none 0 0) (.bool false) (.slice none 0 0)
      exact h
  go_enter Tryz.func65, Tryz.ntmps65
  go_wp2_with fail
  rw [← hW1]
  clear hW1
  go_loopw [4] (fun iv wr => ∃ i : Nat, iv = .int .i64 (i : Int) ∧ i ≤ s.size ∧ Hid (∀ j, j < i → byt s j ≠ 47) ∧ wr = W1) (fun iv _ => s.size - (intOf iv).toNat)
  case atStart => exact ⟨0, rfl, Nat.zero_le _, Lib.hid (fun j hj => absurd hj (by omega)), rfl⟩
  case round =>
    obtain ⟨i, rfl, hi, hdg, hwr⟩ := hrel
    rw [hwr]
    clear hwr
    have hszi : (s.size : Int) ≤ 60000 := by omega
    by_cases hlt : i < s.size
    · have hlti : (i : Int) < (s.size : Int) := by omega
      by_cases h47 : (s[i].toNat : Int) = 47
      · have h47b : ((s[i].toNat : Int) == 47) = true := beq_iff_eq.2 h47
        have HI : Hid (Lib.indexByte s.data.toList 47 = (i : Int)) := Lib.hid (idx_yes hlt h47 hdg.out)
        obtain ⟨top, ht⟩ : ∃ t, t = s.extract 0 i := ⟨_, rfl⟩
        obtain ⟨p, hp⟩ : ∃ p : Nat, p = i + 1 := ⟨_, rfl⟩
        obtain ⟨bot, hbt⟩ : ∃ t, t = s.extract p s.size := ⟨_, rfl⟩
        have HS : Hid (top.size ≤ 60000 ∧ bot.size ≤ 60000) := Lib.hid (by rw [ht, hbt]; simp; omega)
        have HBB : Hid (∀ h : p < s.size, byt bot 0 = s[p].toNat) := Lib.hid (fun h => by rw [hbt]; exact byt_ext h)
        have HBS : Hid (0 < bot.size → p < s.size) := Lib.hid (fun h => by rw [hbt] at h; simp at h; omega)
        have HP := Lib.hid (hp.symm ▸ rfl : i + 1 = p)
        have HTOP := Lib.hid ht
        have HBOT := Lib.hid hbt
        obtain ⟨e1, he1⟩ : ∃ v, v = txe top := ⟨_, rfl⟩
        obtain ⟨e2, he2⟩ : ∃ v, v = txe bot := ⟨_, rfl⟩
        have HE1 := Lib.hid he1
        have HE2 := Lib.hid he2
        have hi0 : (0 : Int) ≤ (i : Int) := by omega
        have hi1 : (i : Int) ≤ (s.size : Int) := by omega
        clear hdg h47 hp ht hbt
        go_wp2_with fail
        rw [← HTOP.out]
        refine (RParse_pir (w := _) (s := top) HS.out.1).mono ?_
        rintro e w2 ⟨n1, A1, c1, l1, rfl, i1, hb⟩
        replace x0 := x0.below hb
        have hw1_ := bt hw1 hb
        clear hb hw1 
        have J1 := Lib.hid i1
        clear i1
        rw [← he1]
        clear he1
        go_upto_region 5 with fail
        obtain ⟨w3, hw⟩ : ∃ W, W = w2.alloc (.cells #[.bool n1, .slice A1 l1.length c1] 24) := ⟨_, rfl⟩
        have xn : Box2 w3 w2.heap.size (.bool n1) (.slice A1 l1.length c1) := by rw [hw]; exact Box2.new _ _ _
        have hb : Below w2.heap.size w2 w3 := by rw [hw]; exact ba (b0 _) _
        obtain ⟨xnp, hxnp⟩ : ∃ p, p = w2.heap.size := ⟨_, rfl⟩
        rw [← hxnp] at xn ⊢
        rw [← hw]
        clear hw hxnp
        replace x0 := x0.below hb
        replace J1 := Lib.hid (J1.out.below hb)
        have hw2_ := bt hw1_ hb
        clear hb hw1_ 
        by_cases a1 : e1 = 3
        · have g1 : (e1 == 3) = true := beq_iff_eq.2 a1
          have HA := Lib.hid a1
          clear a1
          obtain ⟨f0, f1, f2, f3⟩ := x0.fr
          obtain ⟨r0, r1, r2, r3⟩ := x0.cs
          go_wp2_with fail
          have z2 := x0.stored (.bool false) (.slice none 0 0) (.bool false) (.slice none 0 0)
          obtain ⟨k0, k1, k2, k3⟩ := z2.cs
          refine bodyPost_ret (v := .tuple #[.agg #[.bool false, .slice none 0 0, .bool false, .slice none 0 0], .int .i64 e1]) (by simp [results, Tryz.results65, go_sem, k0, k1, k2, k3]) rfl ?_
          have h3 : rc2 top bot = 3 := by rw [rc2_nb]; exact if_pos (HE1.out.symm.trans HA.out)
          rw [HA.out]
          exact RDY.bad HI.out (HTOP.out) (by rw [HBOT.out, ← HP.out]) h3 (by decide) hw2_ x0
        have g1 : (e1 == 3) = false := beq_eq_false_iff_ne.2 a1
        have HA1 := Lib.hid a1
        clear a1
        have hieq : ((i : Int) == (s.size : Int)) = false := beq_eq_false_iff_ne.2 (by omega)
        have hwp : IntKind.i64.wrap ((i : Int) + 1) = (p : Int) := by rw [IntKind.wrap_i64]; have := HP.out; omega
        have hwp2 : wrap64 ((i : Int) + 1) = (p : Int) := by unfold wrap64; have := HP.out; omega
        have hp0 : (0 : Int) ≤ (p : Int) := by omega
        have hp1 : (p : Int) ≤ (s.size : Int) := by have := HP.out; omega
        go_wp2_with fail
        rw [← HBOT.out]
        refine (RParse_pir (w := _) (s := bot) HS.out.2).mono ?_
        rintro e w4 ⟨n2, A2, c2, l2, rfl, i2, hb⟩
        replace x0 := x0.below hb
        replace xn := xn.below hb
        replace J1 := Lib.hid (J1.out.below hb)
        have hw3_ := bt hw2_ hb
        clear hb hw2_ 
        have J2 := Lib.hid i2
        clear i2
        rw [← he2]
        clear he2
        go_upto_region 12 with fail
        obtain ⟨w5, hw⟩ : ∃ W, W = w4.alloc (.cells #[.bool n2, .slice A2 l2.length c2] 24) := ⟨_, rfl⟩
        have xd : Box2 w5 w4.heap.size (.bool n2) (.slice A2 l2.length c2) := by rw [hw]; exact Box2.new _ _ _
        have hb : Below w4.heap.size w4 w5 := by rw [hw]; exact ba (b0 _) _
        obtain ⟨xdp, hxdp⟩ : ∃ p, p = w4.heap.size := ⟨_, rfl⟩
        rw [← hxdp] at xd ⊢
        rw [← hw]
        clear hw hxdp
        replace x0 := x0.below hb
        replace xn := xn.below hb
        replace J1 := Lib.hid (J1.out.below hb)
        replace J2 := Lib.hid (J2.out.below hb)
        have hw4_ := bt hw3_ hb
        clear hb hw3_ 
        clear g1 h47b hieq
        go_cut [72] (fun v wx => v = .bool (nbad bot) ∧ Below w5.heap.size w5 wx)
        case first =>
          as_aux_lemma =>
          have HC := xd.hc
          have HW := Lib.hid hw4_
          have Gx0 := Lib.hid x0
          have Gxn := Lib.hid xn
          have Gxd := Lib.hid xd
          clear x0 xn xd hw4_
          rcases nb_cases bot with ⟨h, hn⟩ | ⟨h, hz, h45, hn⟩ | ⟨h, hz, h45, ht1, hn⟩ | ⟨h, hz, h45, ht1, hsg, hn⟩ | ⟨h, hz, h45, ht1, hsg, hn⟩ | ⟨h, hz, h45, hn⟩ | ⟨h, hz, h45, ht1, hn⟩
          all_goals (rw [← HE2.out] at h; subst h)
          all_goals have HNB := Lib.hid hn
          all_goals clear hn
          · skip
            refine rgh HC fun hHeld => ?_
            obtain ⟨wd, hwd⟩ : ∃ W, W = w5.drew := ⟨_, rfl⟩
            have HBd : Hid (Below w5.heap.size w5 wd) := Lib.hid (by rw [hwd]; exact bw (b0 _))
            rw [← hwd] at hHeld ⊢
            clear hwd
            refine tk 0 ?_
            refine tk 1 ?_
            refine tk 2 ?_
            refine tu 3 ?_
            refine tu 4 ?_
            refine tu 5 ?_
            refine tu 6 ?_
            refine tu 7 ?_
            refine tk 8 ?_
            refine tk 9 ?_
            refine tu 10 ?_
            refine tu 11 ?_
            refine tu 12 ?_
            refine tk 13 ?_
            refine tk 14 ?_
            refine tu 15 ?_
            refine tu 16 ?_
            refine tu 17 ?_
            refine tu 18 ?_
            refine tu 19 ?_
            refine tu 20 ?_
            refine tu 21 ?_
            refine tk 22 ?_
            refine wpAnyH_done (by kernel_rfl) ?_ _
            clear hHeld
            go_wp2_with fail
            go_meet
            exact ⟨by rw [HNB.out], HBd.out⟩
          · have hps : p < s.size := HBS.out hz
            rw [HBB.out hps] at h45
            have hpsi : (p : Int) < (s.size : Int) := by omega
            have h45b : ((s[p].toNat : Int) == 45) = true := beq_iff_eq.2 (by omega)
            clear hz h45
            refine rgh HC fun hHeld => ?_
            obtain ⟨wd, hwd⟩ : ∃ W, W = w5.drew := ⟨_, rfl⟩
            have HBd : Hid (Below w5.heap.size w5 wd) := Lib.hid (by rw [hwd]; exact bw (b0 _))
            rw [← hwd] at hHeld ⊢
            clear hwd
            refine tk 0 ?_
            refine tk 1 ?_
            refine tk 2 ?_
            refine tk 3 ?_
            refine tk 4 ?_
            refine tk 5 ?_
            refine tk 6 ?_
            refine tk 7 ?_
            refine tk 8 ?_
            refine tk 9 ?_
            refine tu 10 ?_
            refine tu 11 ?_
            refine tu 12 ?_
            refine tk 13 ?_
            refine tk 14 ?_
            refine tu 15 ?_
            refine tu 16 ?_
            refine tu 17 ?_
            refine tu 18 ?_
            refine tu 19 ?_
            refine tu 20 ?_
            refine tu 21 ?_
            refine tk 22 ?_
            refine wpAnyH_done (by kernel_rfl) ?_ _
            clear hHeld
            go_wp2_with fail
            go_meet
            exact ⟨by rw [HNB.out], HBd.out⟩
          · have hps : p < s.size := HBS.out hz
            rw [HBB.out hps] at h45
            have hpsi : (p : Int) < (s.size : Int) := by omega
            have h45b : ((s[p].toNat : Int) == 45) = false := beq_eq_false_iff_ne.2 (by omega)
            have HT1 := Lib.hid ht1
            clear ht1
            clear hz h45
            refine rgh HC fun hHeld => ?_
            obtain ⟨wd, hwd⟩ : ∃ W, W = w5.drew := ⟨_, rfl⟩
            have HBd : Hid (Below w5.heap.size w5 wd) := Lib.hid (by rw [hwd]; exact bw (b0 _))
            rw [← hwd] at hHeld ⊢
            clear hwd
            refine tk 0 ?_
            refine tk 1 ?_
            refine tk 2 ?_
            refine tk 3 ?_
            refine tk 4 ?_
            refine tk 5 ?_
            refine tk 6 ?_
            refine tk 7 ?_
            refine tk 8 ?_
            refine tk 9 ?_
            refine tk 10 ?_
            refine cl 11 fun K hK => ?_
            go_simp
            go_at_call 107
            refine (Rone_iv _).mono ?_
            rintro e y7 ⟨n3, A3, c3, l3, rfl, i3, hb⟩
            have HBy7 := Lib.hid (bt HBd.out hb)
            have J3 := Lib.hid i3
            clear hb i3 hHeld
            refine rk hK (HC.out _ HBy7.out) fun hHeld => ?_
            clear hK K
            refine cl 12 fun K hK => ?_
            go_simp
            go_at_call 17
            refine ((Same_d (J2.out.below HBy7.out) J3.out).mono fun e w' h => by rw [decide_eq_true HT1.out] at h; exact h).mono ?_
            rintro e y8 ⟨rfl, hb⟩
            replace J3 := Lib.hid (J3.out.below hb)
            have HBy8 := Lib.hid (bt HBy7.out hb)
            clear hb  hHeld
            refine rk hK (HC.out _ HBy8.out) fun hHeld => ?_
            clear hK K
            refine tk 13 ?_
            refine tk 14 ?_
            refine tu 15 ?_
            refine tu 16 ?_
            refine tu 17 ?_
            refine tu 18 ?_
            refine tu 19 ?_
            refine tu 20 ?_
            refine tu 21 ?_
            refine tk 22 ?_
            refine wpAnyH_done (by kernel_rfl) ?_ _
            clear hHeld
            go_wp2_with fail
            go_meet
            exact ⟨by rw [HNB.out], HBy8.out⟩
          · have hps : p < s.size := HBS.out hz
            rw [HBB.out hps] at h45
            have hpsi : (p : Int) < (s.size : Int) := by omega
            have h45b : ((s[p].toNat : Int) == 45) = false := beq_eq_false_iff_ne.2 (by omega)
            have HT1 := Lib.hid ht1
            clear ht1
            have HSG := Lib.hid hsg
            clear hsg
            clear hz h45
            refine rgh HC fun hHeld => ?_
            obtain ⟨wd, hwd⟩ : ∃ W, W = w5.drew := ⟨_, rfl⟩
            have HBd : Hid (Below w5.heap.size w5 wd) := Lib.hid (by rw [hwd]; exact bw (b0 _))
            rw [← hwd] at hHeld ⊢
            clear hwd
            refine tk 0 ?_
            refine tk 1 ?_
            refine tk 2 ?_
            refine tk 3 ?_
            refine tk 4 ?_
            refine tk 5 ?_
            refine tk 6 ?_
            refine tk 7 ?_
            refine tk 8 ?_
            refine tk 9 ?_
            refine tk 10 ?_
            refine cl 11 fun K hK => ?_
            go_simp
            go_at_call 107
            refine (Rone_iv _).mono ?_
            rintro e y9 ⟨n3, A3, c3, l3, rfl, i3, hb⟩
            have HBy9 := Lib.hid (bt HBd.out hb)
            have J3 := Lib.hid i3
            clear hb i3 hHeld
            refine rk hK (HC.out _ HBy9.out) fun hHeld => ?_
            clear hK K
            refine cl 12 fun K hK => ?_
            go_simp
            go_at_call 17
            refine ((Same_d (J2.out.below HBy9.out) J3.out).mono fun e w' h => by rw [decide_eq_false HT1.out] at h; exact h).mono ?_
            rintro e y10 ⟨rfl, hb⟩
            replace J3 := Lib.hid (J3.out.below hb)
            have HBy10 := Lib.hid (bt HBy9.out hb)
            clear hb  hHeld
            refine rk hK (HC.out _ HBy10.out) fun hHeld => ?_
            clear hK K
            refine tk 13 ?_
            refine tk 14 ?_
            refine tk 15 ?_
            refine tk 16 ?_
            refine tk 17 ?_
            refine tk 18 ?_
            refine cl 19 fun K hK => ?_
            go_simp
            go_at_call 58
            refine (RSign_iv (J2.out.below HBy10.out) HSG.out).mono ?_
            rintro e y11 ⟨rfl, hb⟩
            replace J3 := Lib.hid (J3.out.below hb)
            have HBy11 := Lib.hid (bt HBy10.out hb)
            clear hb  hHeld
            refine rk hK (HC.out _ HBy11.out) fun hHeld => ?_
            clear hK K
            refine tk 20 ?_
            refine tk 21 ?_
            refine tk 22 ?_
            refine wpAnyH_done (by kernel_rfl) ?_ _
            clear hHeld
            go_wp2_with fail
            go_meet
            exact ⟨by rw [HNB.out], HBy11.out⟩
          · have hps : p < s.size := HBS.out hz
            rw [HBB.out hps] at h45
            have hpsi : (p : Int) < (s.size : Int) := by omega
            have h45b : ((s[p].toNat : Int) == 45) = false := beq_eq_false_iff_ne.2 (by omega)
            have HT1 := Lib.hid ht1
            clear ht1
            have HSG := Lib.hid hsg
            clear hsg
            clear hz h45
            refine rgh HC fun hHeld => ?_
            obtain ⟨wd, hwd⟩ : ∃ W, W = w5.drew := ⟨_, rfl⟩
            have HBd : Hid (Below w5.heap.size w5 wd) := Lib.hid (by rw [hwd]; exact bw (b0 _))
            rw [← hwd] at hHeld ⊢
            clear hwd
            refine tk 0 ?_
            refine tk 1 ?_
            refine tk 2 ?_
            refine tk 3 ?_
            refine tk 4 ?_
            refine tk 5 ?_
            refine tk 6 ?_
            refine tk 7 ?_
            refine tk 8 ?_
            refine tk 9 ?_
            refine tk 10 ?_
            refine cl 11 fun K hK => ?_
            go_simp
            go_at_call 107
            refine (Rone_iv _).mono ?_
            rintro e y12 ⟨n3, A3, c3, l3, rfl, i3, hb⟩
            have HBy12 := Lib.hid (bt HBd.out hb)
            have J3 := Lib.hid i3
            clear hb i3 hHeld
            refine rk hK (HC.out _ HBy12.out) fun hHeld => ?_
            clear hK K
            refine cl 12 fun K hK => ?_
            go_simp
            go_at_call 17
            refine ((Same_d (J2.out.below HBy12.out) J3.out).mono fun e w' h => by rw [decide_eq_false HT1.out] at h; exact h).mono ?_
            rintro e y13 ⟨rfl, hb⟩
            replace J3 := Lib.hid (J3.out.below hb)
            have HBy13 := Lib.hid (bt HBy12.out hb)
            clear hb  hHeld
            refine rk hK (HC.out _ HBy13.out) fun hHeld => ?_
            clear hK K
            refine tk 13 ?_
            refine tk 14 ?_
            refine tk 15 ?_
            refine tk 16 ?_
            refine tk 17 ?_
            refine tk 18 ?_
            refine cl 19 fun K hK => ?_
            go_simp
            go_at_call 58
            refine (RSign_iv (J2.out.below HBy13.out) HSG.out).mono ?_
            rintro e y14 ⟨rfl, hb⟩
            replace J3 := Lib.hid (J3.out.below hb)
            have HBy14 := Lib.hid (bt HBy13.out hb)
            clear hb  hHeld
            refine rk hK (HC.out _ HBy14.out) fun hHeld => ?_
            clear hK K
            refine tk 20 ?_
            refine tk 21 ?_
            refine tk 22 ?_
            refine wpAnyH_done (by kernel_rfl) ?_ _
            clear hHeld
            go_wp2_with fail
            go_meet
            exact ⟨by rw [HNB.out], HBy14.out⟩
          · have hps : p < s.size := HBS.out hz
            rw [HBB.out hps] at h45
            have hpsi : (p : Int) < (s.size : Int) := by omega
            have h45b : ((s[p].toNat : Int) == 45) = true := beq_iff_eq.2 (by omega)
            clear hz h45
            refine rgh HC fun hHeld => ?_
            obtain ⟨wd, hwd⟩ : ∃ W, W = w5.drew := ⟨_, rfl⟩
            have HBd : Hid (Below w5.heap.size w5 wd) := Lib.hid (by rw [hwd]; exact bw (b0 _))
            rw [← hwd] at hHeld ⊢
            clear hwd
            refine tk 0 ?_
            refine tk 1 ?_
            refine tk 2 ?_
            refine tk 3 ?_
            refine tk 4 ?_
            refine tk 5 ?_
            refine tk 6 ?_
            refine tk 7 ?_
            refine tk 8 ?_
            refine tk 9 ?_
            refine tu 10 ?_
            refine tu 11 ?_
            refine tu 12 ?_
            refine tk 13 ?_
            refine tk 14 ?_
            refine tu 15 ?_
            refine tu 16 ?_
            refine tu 17 ?_
            refine tu 18 ?_
            refine tu 19 ?_
            refine tu 20 ?_
            refine tu 21 ?_
            refine tk 22 ?_
            refine wpAnyH_done (by kernel_rfl) ?_ _
            clear hHeld
            go_wp2_with fail
            go_meet
            exact ⟨by rw [HNB.out], HBd.out⟩
          · have hps : p < s.size := HBS.out hz
            rw [HBB.out hps] at h45
            have hpsi : (p : Int) < (s.size : Int) := by omega
            have h45b : ((s[p].toNat : Int) == 45) = false := beq_eq_false_iff_ne.2 (by omega)
            have HT1 := Lib.hid ht1
            clear ht1
            clear hz h45
            refine rgh HC fun hHeld => ?_
            obtain ⟨wd, hwd⟩ : ∃ W, W = w5.drew := ⟨_, rfl⟩
            have HBd : Hid (Below w5.heap.size w5 wd) := Lib.hid (by rw [hwd]; exact bw (b0 _))
            rw [← hwd] at hHeld ⊢
            clear hwd
            refine tk 0 ?_
            refine tk 1 ?_
            refine tk 2 ?_
            refine tk 3 ?_
            refine tk 4 ?_
            refine tk 5 ?_
            refine tk 6 ?_
            refine tk 7 ?_
            refine tk 8 ?_
            refine tk 9 ?_
            refine tk 10 ?_
            refine cl 11 fun K hK => ?_
            go_simp
            go_at_call 107
            refine (Rone_iv _).mono ?_
            rintro e y15 ⟨n3, A3, c3, l3, rfl, i3, hb⟩
            have HBy15 := Lib.hid (bt HBd.out hb)
            have J3 := Lib.hid i3
            clear hb i3 hHeld
            refine rk hK (HC.out _ HBy15.out) fun hHeld => ?_
            clear hK K
            refine cl 12 fun K hK => ?_
            go_simp
            go_at_call 17
            refine ((Same_d (J2.out.below HBy15.out) J3.out).mono fun e w' h => by rw [decide_eq_false HT1.out] at h; exact h).mono ?_
            rintro e y16 ⟨rfl, hb⟩
            replace J3 := Lib.hid (J3.out.below hb)
            have HBy16 := Lib.hid (bt HBy15.out hb)
            clear hb  hHeld
            refine rk hK (HC.out _ HBy16.out) fun hHeld => ?_
            clear hK K
            refine tk 13 ?_
            refine tk 14 ?_
            refine tk 15 ?_
            refine tk 16 ?_
            refine tk 17 ?_
            refine tu 18 ?_
            refine tu 19 ?_
            refine tu 20 ?_
            refine tk 21 ?_
            refine tk 22 ?_
            refine wpAnyH_done (by kernel_rfl) ?_ _
            clear hHeld
            go_wp2_with fail
            go_meet
            exact ⟨by rw [HNB.out], HBy16.out⟩
        case rest =>
        obtain ⟨rfl, hb⟩ := hcut
        obtain ⟨w6, hwn⟩ : ∃ v, v = wc := ⟨_, rfl⟩
        rw [← hwn] at hb ⊢
        clear hwn wc
        replace x0 := x0.below hb
        replace xn := xn.below hb
        replace xd := xd.below hb
        replace J1 := Lib.hid (J1.out.below hb)
        replace J2 := Lib.hid (J2.out.below hb)
        have hw5_ := bt hw4_ hb
        clear hb hw4_ 
        obtain ⟨nbv, hnbv⟩ : ∃ b, b = nbad bot := ⟨_, rfl⟩
        rw [← hnbv]
        have HNB := Lib.hid hnbv
        clear hnbv
        cases nbv
        rotate_left
        · obtain ⟨f0, f1, f2, f3⟩ := x0.fr
          obtain ⟨r0, r1, r2, r3⟩ := x0.cs
          go_wp2_with fail
          have z2 := x0.stored (.bool false) (.slice none 0 0) (.bool false) (.slice none 0 0)
          obtain ⟨k0, k1, k2, k3⟩ := z2.cs
          refine bodyPost_ret (v := .tuple #[.agg #[.bool false, .slice none 0 0, .bool false, .slice none 0 0], .int .i64 3]) (by simp [results, Tryz.results65, go_sem, k0, k1, k2, k3]) rfl ?_
          have h3 : rc2 top bot = 3 := by rw [rc2_nb, if_neg (fun h => HA1.out (HE1.out.trans h))]; exact if_pos HNB.out.symm
          exact RDY.bad HI.out (HTOP.out) (by rw [HBOT.out, ← HP.out]) h3 (by decide) hw5_ x0
        have HNF : Hid (¬ nbad bot = true) := Lib.hid (by rw [← HNB.out]; decide)
        by_cases a3 : e1 = 0
        rotate_left
        · have g3 : (e1 == 0) = false := beq_eq_false_iff_ne.2 a3
          have HA := Lib.hid a3
          clear a3
          obtain ⟨f0, f1, f2, f3⟩ := x0.fr
          obtain ⟨r0, r1, r2, r3⟩ := x0.cs
          go_wp2_with fail
          have z2 := x0.stored (.bool false) (.slice none 0 0) (.bool false) (.slice none 0 0)
          obtain ⟨k0, k1, k2, k3⟩ := z2.cs
          refine bodyPost_ret (v := .tuple #[.agg #[.bool false, .slice none 0 0, .bool false, .slice none 0 0], .int .i64 2]) (by simp [results, Tryz.results65, go_sem, k0, k1, k2, k3]) rfl ?_
          have h3 : rc2 top bot = 2 := by rw [rc2_nb, if_neg (fun h => HA1.out (HE1.out.trans h)), if_neg HNF.out]; exact if_neg (fun h => HA.out (HE1.out.trans h.1))
          exact RDY.bad HI.out (HTOP.out) (by rw [HBOT.out, ← HP.out]) h3 (by decide) hw5_ x0
        have g3 : (e1 == 0) = true := beq_iff_eq.2 a3
        have HA3 := Lib.hid a3
        clear a3
        by_cases a4 : e2 = 0
        rotate_left
        · have g4 : (e2 == 0) = false := beq_eq_false_iff_ne.2 a4
          have HA := Lib.hid a4
          clear a4
          obtain ⟨f0, f1, f2, f3⟩ := x0.fr
          obtain ⟨r0, r1, r2, r3⟩ := x0.cs
          go_wp2_with fail
          have z2 := x0.stored (.bool false) (.slice none 0 0) (.bool false) (.slice none 0 0)
          obtain ⟨k0, k1, k2, k3⟩ := z2.cs
          refine bodyPost_ret (v := .tuple #[.agg #[.bool false, .slice none 0 0, .bool false, .slice none 0 0], .int .i64 2]) (by simp [results, Tryz.results65, go_sem, k0, k1, k2, k3]) rfl ?_
          have h3 : rc2 top bot = 2 := by rw [rc2_nb, if_neg (fun h => HA1.out (HE1.out.trans h)), if_neg HNF.out]; exact if_neg (fun h => HA.out (HE2.out.trans h.2))
          exact RDY.bad HI.out (HTOP.out) (by rw [HBOT.out, ← HP.out]) h3 (by decide) hw5_ x0
        have g4 : (e2 == 0) = true := beq_iff_eq.2 a4
        have HA4 := Lib.hid a4
        clear a4
        have HRC : Hid (rc2 top bot = if Nat.gcd (txv top).natAbs (txv bot).natAbs = 1 then 0 else 3) := Lib.hid (by rw [rc2_nb, if_neg (fun h => HA1.out (HE1.out.trans h)), if_neg HNF.out]; exact if_pos ⟨HE1.out.symm.trans HA3.out, HE2.out.symm.trans HA4.out⟩)
        have HG : Hid (Lt 2100 ((Nat.gcd (txv top).natAbs (txv bot).natAbs : Nat) : Int)) := Lib.hid (gcd_lt J1.out J2.out)
        have c_xn_0 := xn.cell0
        have c_xn_1 := xn.cell1
        have c_xd_0 := xd.cell0
        have c_xd_1 := xd.cell1
        go_wp2_with fail
        clear g3 g4
        refine (RGcd_iv J1.out J2.out rfl HG.out).mono ?_
        rintro e w17 ⟨n4, A4, c4, l4, rfl, i4, hb⟩
        clear c_xn_0 c_xn_1 c_xd_0 c_xd_1
        replace x0 := x0.below hb
        replace xn := xn.below hb
        replace xd := xd.below hb
        replace J1 := Lib.hid (J1.out.below hb)
        replace J2 := Lib.hid (J2.out.below hb)
        have hw6_ := bt hw5_ hb
        clear hb hw5_ 
        have J4 := Lib.hid i4
        clear i4
        go_wp2_with fail
        refine (Rone_iv _).mono ?_
        rintro e w18 ⟨n5, A5, c5, l5, rfl, i5, hb⟩
        replace x0 := x0.below hb
        replace xn := xn.below hb
        replace xd := xd.below hb
        replace J1 := Lib.hid (J1.out.below hb)
        replace J2 := Lib.hid (J2.out.below hb)
        replace J4 := Lib.hid (J4.out.below hb)
        have hw7_ := bt hw6_ hb
        clear hb hw6_ 
        have J5 := Lib.hid i5
        clear i5
        go_wp2_with fail
        refine (Same_d J4.out J5.out).mono ?_
        rintro e w19 ⟨rfl, hb⟩
        replace x0 := x0.below hb
        replace xn := xn.below hb
        replace xd := xd.below hb
        replace J1 := Lib.hid (J1.out.below hb)
        replace J2 := Lib.hid (J2.out.below hb)
        replace J4 := Lib.hid (J4.out.below hb)
        replace J5 := Lib.hid (J5.out.below hb)
        have hw8_ := bt hw7_ hb
        clear hb hw7_ 
        obtain ⟨cg, hcg⟩ : ∃ b, b = decide (((Nat.gcd (txv top).natAbs (txv bot).natAbs : Nat) : Int) = 1) := ⟨_, rfl⟩
        rw [← hcg]
        have HCG := Lib.hid hcg
        clear hcg
        cases cg
        · obtain ⟨f0, f1, f2, f3⟩ := x0.fr
          obtain ⟨r0, r1, r2, r3⟩ := x0.cs
          go_wp2_with fail
          have z2 := x0.stored (.bool false) (.slice none 0 0) (.bool false) (.slice none 0 0)
          obtain ⟨k0, k1, k2, k3⟩ := z2.cs
          refine bodyPost_ret (v := .tuple #[.agg #[.bool false, .slice none 0 0, .bool false, .slice none 0 0], .int .i64 3]) (by simp [results, Tryz.results65, go_sem, k0, k1, k2, k3]) rfl ?_
          have h3 : rc2 top bot = 3 := by rw [HRC.out]; exact if_neg (fun h => by have := of_decide_eq_false HCG.out.symm; omega)
          exact RDY.bad HI.out (HTOP.out) (by rw [HBOT.out, ← HP.out]) h3 (by decide) hw8_ x0
        have HZ : Hid (rc2 top bot = 0) := Lib.hid (by rw [HRC.out]; exact if_pos (by have := of_decide_eq_true HCG.out.symm; omega))
        have c_xn_0 := xn.cell0
        have c_xn_1 := xn.cell1
        have c_xd_0 := xd.cell0
        have c_xd_1 := xd.cell1
        obtain ⟨f0, f1, f2, f3⟩ := x0.fr
        obtain ⟨r0, r1, r2, r3⟩ := x0.cs
        go_wp2_with fail
        have z2 := x0.stored (.bool n1) (.slice A1 l1.length c1) (.bool n2) (.slice A2 l2.length c2)
        obtain ⟨k0, k1, k2, k3⟩ := z2.cs
        refine bodyPost_ret (v := .tuple #[.agg #[.bool n1, .slice A1 l1.length c1, .bool n2, .slice A2 l2.length c2], .int .i64 0]) (by simp [results, Tryz.results65, go_sem, k0, k1, k2, k3]) rfl ?_
        exact RDY.good HI.out HTOP.out (by rw [HBOT.out, ← HP.out]) HZ.out (rqe_store hw8_ (by omega) x0 J1.out J2.out)
      · have h47b : ((s[i].toNat : Int) == 47) = false := beq_eq_false_iff_ne.2 h47
        have HGOOD : Hid (∀ j, j < i + 1 → byt s j ≠ 47) := Lib.hid (fun j hj => by
          rcases Nat.lt_or_ge j i with h | h
          · exact hdg.out j h
          · rw [show j = i by omega, byt_at hlt]; omega)
        clear h47
        go_wp2_with fail
        go_roundw
        case rel => exact ⟨i + 1, by go_num, by omega, HGOOD, trivial⟩
        case measure => simp [intOf]; omega
    · have hnlt : ¬ (i : Int) < (s.size : Int) := by omega
      have HI : Hid (Lib.indexByte s.data.toList 47 = -1) := Lib.hid (idx_no (fun j hj => hdg.out j (by omega)))
      obtain ⟨e1, he1⟩ : ∃ v, v = txe s := ⟨_, rfl⟩
      have HE1 := Lib.hid he1
      have hi0 : (0 : Int) ≤ (i : Int) := by omega
      have hi1 : (i : Int) ≤ (s.size : Int) := by omega
      have hieq : ((i : Int) == (s.size : Int)) = true := beq_iff_eq.2 (by omega)
      have HEX : Hid (s.extract 0 i = s) := Lib.hid (by rw [show i = s.size by omega]; exact ext_all s)
      clear hdg
      go_wp2_with fail
      rw [HEX.out]
      refine (RParse_pir (w := _) (s := s) hs).mono ?_
      rintro e w2 ⟨n1, A1, c1, l1, rfl, i1, hb⟩
      replace x0 := x0.below hb
      have hw9_ := bt hw1 hb
      clear hb hw1 
      have J1 := Lib.hid i1
      clear i1
      rw [← he1]
      clear he1
      go_upto_region 5 with fail
      obtain ⟨w3, hw⟩ : ∃ W, W = w2.alloc (.cells #[.bool n1, .slice A1 l1.length c1] 24) := ⟨_, rfl⟩
      have xn : Box2 w3 w2.heap.size (.bool n1) (.slice A1 l1.length c1) := by rw [hw]; exact Box2.new _ _ _
      have hb : Below w2.heap.size w2 w3 := by rw [hw]; exact ba (b0 _) _
      obtain ⟨xnp, hxnp⟩ : ∃ p, p = w2.heap.size := ⟨_, rfl⟩
      rw [← hxnp] at xn ⊢
      rw [← hw]
      clear hw hxnp
      replace x0 := x0.below hb
      replace J1 := Lib.hid (J1.out.below hb)
      have hw10_ := bt hw9_ hb
      clear hb hw9_ 
      by_cases a1 : e1 = 3
      · have g1 : (e1 == 3) = true := beq_iff_eq.2 a1
        have HA : Hid (¬ e1 = 0) := Lib.hid (by omega)
        clear a1
        obtain ⟨f0, f1, f2, f3⟩ := x0.fr
        obtain ⟨r0, r1, r2, r3⟩ := x0.cs
        go_wp2_with fail
        have z2 := x0.stored (.bool false) (.slice none 0 0) (.bool false) (.slice none 0 0)
        obtain ⟨k0, k1, k2, k3⟩ := z2.cs
        refine bodyPost_ret (v := .tuple #[.agg #[.bool false, .slice none 0 0, .bool false, .slice none 0 0], .int .i64 e1]) (by simp [results, Tryz.results65, go_sem, k0, k1, k2, k3]) rfl ?_
        exact RDY.none HI.out (fun h => HA.out (HE1.out.trans h)) HE1.out hw10_ x0
      have g1 : (e1 == 3) = false := beq_eq_false_iff_ne.2 a1
      clear a1
      by_cases a2 : e1 = 0
      rotate_left
      · have g2 : (e1 == 0) = false := beq_eq_false_iff_ne.2 a2
        have HA := Lib.hid a2
        clear a2
        obtain ⟨f0, f1, f2, f3⟩ := x0.fr
        obtain ⟨r0, r1, r2, r3⟩ := x0.cs
        go_wp2_with fail
        have z2 := x0.stored (.bool false) (.slice none 0 0) (.bool false) (.slice none 0 0)
        obtain ⟨k0, k1, k2, k3⟩ := z2.cs
        refine bodyPost_ret (v := .tuple #[.agg #[.bool false, .slice none 0 0, .bool false, .slice none 0 0], .int .i64 e1]) (by simp [results, Tryz.results65, go_sem, k0, k1, k2, k3]) rfl ?_
        exact RDY.none HI.out (fun h => HA.out (HE1.out.trans h)) HE1.out hw10_ x0
      have g2 : (e1 == 0) = true := beq_iff_eq.2 a2
      have HA := Lib.hid a2
      clear a2
      have c_xn_0 := xn.cell0
      have c_xn_1 := xn.cell1
      go_wp2_with fail
      clear g1 g2 hnlt hieq
      refine (RQWhole_iv J1.out).mono ?_
      rintro e w4 ⟨n2, A2, c2, l2, m2, B2, d2, k2, rfl, i2, j2, hb⟩
      clear c_xn_0 c_xn_1
      replace x0 := x0.below hb
      replace xn := xn.below hb
      replace J1 := Lib.hid (J1.out.below hb)
      have hw11_ := bt hw10_ hb
      clear hb hw10_ 
      have J2 := Lib.hid i2
      have J3 := Lib.hid j2
      clear i2 j2
      obtain ⟨f0, f1, f2, f3⟩ := x0.fr
      obtain ⟨r0, r1, r2, r3⟩ := x0.cs
      go_wp2_with fail
      have z2 := x0.stored (.bool n2) (.slice A2 l2.length c2) (.bool m2) (.slice B2 k2.length d2)
      obtain ⟨k0, k1, k2', k3⟩ := z2.cs
      refine bodyPost_ret (v := .tuple #[.agg #[.bool n2, .slice A2 l2.length c2, .bool m2, .slice B2 k2.length d2], .int .i64 0]) (by simp [results, Tryz.results65, go_sem, k0, k1, k2', k3]) rfl ?_
      exact RDY.whole HI.out (HE1.out.symm.trans HA.out) (rqe_store hw11_ (by omega) x0 J2.out J3.out)
end Go.Proofs.YtgljdfblgpdaaaaGreatDoor
