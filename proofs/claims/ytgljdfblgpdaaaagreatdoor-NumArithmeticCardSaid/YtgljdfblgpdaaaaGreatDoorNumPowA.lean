/- power and Pow, of numbers of any length. -/
import Derived.Test.YtgljdfblgpdaaaaGreatDoorNumPow
import Derived.Test.YtgljdfblgpdaaaaGreatDoorNumProd
set_option linter.unusedSimpArgs false
set_option linter.unusedVariables false
namespace Go.Proofs.YtgljdfblgpdaaaaGreatDoor
open Go.RowKit

set_option maxRecDepth 100000 in
set_option maxHeartbeats 1000000 in
theorem power_gen (w : World) (A : Option Addr) (c : Nat) (l : List Nat) (n : Nat) (M : Nat) (hM : M ≤ 100000) (hl2 : l.length ≤ M) (hlc : l.length ≤ c) (hn : n < 9223372036854775808) (hfit : ∀ m, m ≤ n → val l ^ m < BB M) (tl : Top l) (hl : WS w A l) :
    Calls Tryz.prog 127 #[.slice A l.length c, .int .i64 (n : Int)] w (Res w (val l ^ n)) := by
  go_enter Tryz.func127, Tryz.ntmps127
  go_wp2_with fail
  refine (Tryz.bits_Len (n : Int) _ (by omega) (by omega)).mono ?_
  rintro e w1 ⟨rfl, rfl⟩
  rw [Int.toNat_natCast]
  have hb64 : Lib.bitLen n ≤ 64 := by unfold Lib.bitLen; exact bitLen_le 64 n
  have hone : Blk (w.alloc (.cells #[.int .u32 1] 83)) w.heap.size [1] := Blk.new w [1] (by simp)
  obtain ⟨W1, hW1⟩ : ∃ W, W = w.alloc (.cells #[.int .u32 1] 83) := ⟨_, rfl⟩
  have hw1 : Below w.heap.size w W1 := by rw [hW1]; exact ba (b0 _) _
  rw [← hW1] at hone ⊢
  clear hW1
  have hlt := hl.lt
  have HF := Lib.hid hfit
  have HBL := Lib.hid (bitLen_spec n (by omega))
  clear hfit
  go_wp2_with fail
  go_loopw [5, 6] (fun ov iv wr => ∃ (j : Nat) (A1 : Option Addr) (c1 : Nat) (l1 : List Nat), ov = .slice A1 l1.length c1 ∧ iv = .int .i64 ((j : Int) - 1) ∧ l1.length ≤ c1 ∧ OwnS w wr A1 l1 ∧ Top l1 ∧ Hid (val l1 = val l ^ (n / 2 ^ j)) ∧ j ≤ 64 ∧ Below w.heap.size w wr) (fun _ iv _ => (intOf iv + 1).toNat)
  case atStart => exact ⟨Lib.bitLen n, some ⟨w.heap.size, 0, none⟩, 1, [1], rfl, by go_num, Nat.le_refl _, own_of_blk (Nat.le_refl _) hone, fun _ => by simp [gd], by show _ = _; rw [Nat.div_eq_of_lt HBL.out]; simp [val], hb64, hw1⟩
  case round =>
    obtain ⟨j, A1, c1, l1, rfl, rfl, hc1, ho1, ht1, hv1, hj, hb1⟩ := hrel
    rcases Nat.eq_zero_or_pos j with rfl | hj0
    · go_wp2_with fail
      go_ret
      exact ⟨A1, c1, l1, rfl, hc1, ho1, ht1, by rw [hv1.out]; simp, hb1⟩
    · obtain ⟨i, rfl⟩ : ∃ i, j = i + 1 := ⟨j - 1, by omega⟩
      have hi0 : (0 : Int) ≤ (i : Int) := by omega
      have hdm : n / 2 ^ i = 2 * (n / 2 ^ (i + 1)) + (n / 2 ^ i) % 2 := by
        have e := Nat.div_add_mod (n / 2 ^ i) 2
        rw [show n / 2 ^ (i + 1) = n / 2 ^ i / 2 from by rw [Nat.div_div_eq_div_mul, ← Nat.pow_succ]]
        omega
      have hle1 : n / 2 ^ i ≤ n := Nat.div_le_self _ _
      have hl1 : l1.length ≤ M := top_len ht1 (by rw [hv1.out]; exact HF.out _ (by omega))
      have HP := HF
      have HD := Lib.hid hdm
      clear hdm
      go_wp2_with fail
      refine (product_all w wr A1 A1 l1.length c1 l1.length c1 l1 l1 rfl rfl (by omega) hc1 hc1 ho1.ws ho1.ws hb1).mono ?_
      rintro e w2 ⟨A2, c2, l2, rfl, hc2, ho2, ht2, hv2, hb2⟩
      have hv2' : val l2 = val l ^ (2 * (n / 2 ^ (i + 1))) := by rw [hv2, hv1.out, ← Nat.pow_add]; congr 1; omega
      have HV2 := Lib.hid hv2'
      have hl2' : l2.length ≤ M := top_len ht2 (by rw [hv2']; exact HP.out _ (by have := HD.out; omega))
      clear hv2 hv2'
      obtain ⟨q, hq⟩ : ∃ q, q = n / 2 ^ i := ⟨_, rfl⟩
      rw [← hq] at HD hle1
      have hand := and1_div n i q hq
      have HQ := Lib.hid hq
      clear hq
      rcases Nat.mod_two_eq_zero_or_one q with hq2 | hq2
      · rw [hq2] at hand
        have HQ2 := Lib.hid hq2
        clear hq2
        go_wp2_with fail
        go_roundw
        case rel => exact ⟨i, A2, c2, l2, rfl, by go_num, hc2, ho2, ht2, by show _ = _; rw [HV2.out, ← HQ.out]; congr 1; have := HD.out; have := HQ2.out; omega, by omega, hb2⟩
        case measure => simp [intOf]
      · rw [hq2] at hand
        have HQ2 := Lib.hid hq2
        clear hq2
        go_wp2_with fail
        refine (product_all w w2 A2 A l2.length c2 l.length c l2 l rfl rfl (by omega) hc2 hlc ho2.ws (hl.below hb2) hb2).mono ?_
        rintro e w3 ⟨A3, c3, l3, rfl, hc3, ho3, ht3, hv3, hb3⟩
        have HV3 := Lib.hid hv3
        clear hv3
        go_wp2_with fail
        go_roundw
        case rel => exact ⟨i, A3, c3, l3, rfl, by go_num, hc3, ho3, ht3, by show _ = _; rw [HV3.out, HV2.out, ← Nat.pow_succ, ← HQ.out]; congr 1; have := HD.out; have := HQ2.out; omega, by omega, hb3⟩
        case measure => simp [intOf]
set_option maxRecDepth 100000 in
set_option maxHeartbeats 400000 in
theorem Pow_gen (a w : World) (neg : Bool) (A : Option Addr) (c : Nat) (l : List Nat) (n : Nat) (M : Nat) (hM : M ≤ 100000) (hl2 : l.length ≤ M) (hlc : l.length ≤ c) (hn : n < 9223372036854775808) (hfit : ∀ m, m ≤ n → val l ^ m < BB M) (hB : isB neg l = true) (hlim : ¬ (1 < bl l ∧ 1048576 / bl l < n)) (hl : WS w A l) (hw : Below a.heap.size a w) :
    Calls Tryz.prog 72 #[.agg #[.bool neg, .slice A l.length c], .int .i64 (n : Int)] w fun e w' => ∃ n1 A1 c1 l1, e = .returned (.tuple #[.agg #[.bool n1, .slice A1 l1.length c1], .int .i64 0]) ∧ IP a w' n1 A1 c1 l1 (zI neg l ^ n) ∧ Below a.heap.size a w' := by
  have HB := Lib.hid hB
  have HF := Lib.hid hfit
  have hz := fun l1 h => zI_pow neg l l1 n h
  have HZ := Lib.hid hz
  clear hB hfit hz
  have hmod : (n : Int).tmod 2 = ((n % 2 : Nat) : Int) := by rw [Int.tmod_eq_emod_of_nonneg (by omega)]; simp
  have hnn : ¬ (n : Int) < 0 := by omega
  have hdec : ((((n % 2 : Nat) : Int) == 1) : Bool) = decide (n % 2 = 1) := by rcases Nat.mod_two_eq_zero_or_one n with h | h <;> rw [h] <;> rfl
  go_enter Tryz.func72, Tryz.ntmps72
  go_wp2_with fail
  refine (Is_any neg A _ c l _ rfl (by omega) (hl.below (ba (ba (b0 _) _) _))).mono ?_
  rintro e w1 ⟨rfl, hb⟩
  rw [HB.out]
  have hbx := (Box2.new (w.alloc (.cells #[.bool neg, .slice A l.length c] 24)) (.bool false) (.slice none 0 0)).below hb
  rw [World.size_alloc] at hbx
  have hby := ((Box2.new w (.bool neg) (.slice A l.length c)).alloc (.cells #[.bool false, .slice none 0 0] 24)).below hb
  have y0 := hby.cell0
  have y1 := hby.cell1
  have hl1 : WS w1 A l := hl.below (bt (ba (ba (b0 _) _) _) hb)
  go_wp2_with fail
  refine (bitLen_any A _ c l _ rfl (by omega) hl1).mono ?_
  rintro e w2 ⟨rfl, rfl⟩
  obtain ⟨m, hm⟩ : ∃ m, m = bl l := ⟨_, rfl⟩
  rw [← hm] at hlim ⊢
  clear hm hdec hnn
  have hnn : ¬ (n : Int) < 0 := by omega
  by_cases hb1 : 1 < m
  · have hbi : (1 : Int) < (m : Int) := by omega
    have hm0 : ((m : Int) == 0) = false := beq_eq_false_iff_ne.2 (by omega)
    have hdiv : (1048576 : Int).tdiv (m : Int) = ((1048576 / m : Nat) : Int) := by rw [Int.tdiv_eq_ediv_of_nonneg (by omega)]; simp
    have hdle : 1048576 / m ≤ 1048576 := Nat.div_le_self _ _
    have hng : ¬ ((1048576 / m : Nat) : Int) < (n : Int) := by
      have h : ¬ 1048576 / m < n := fun h => hlim ⟨hb1, h⟩
      omega
    obtain ⟨d, hd⟩ : ∃ d, d = 1048576 / m := ⟨_, rfl⟩
    rw [← hd] at hdiv hdle hng
    clear hd hlim hb1
    cases neg
    · go_wp2_with fail
      refine (power_gen _ A c l n M hM hl2 hlc hn HF.out (isB_top HB.out) hl1).mono ?_
      rintro e w3 ⟨A3, c3, l3, rfl, hc3, ho3, ht3, hv3, hb3⟩
      have hl3 : l3.length ≤ M := top_len ht3 (by rw [hv3]; exact HF.out _ (Nat.le_refl _))
      have HV3 := Lib.hid hv3
      clear hv3
      go_wp2_with fail
      refine (signed_ip w1 w3 false A3 c3 l3 (by omega) hc3 ho3 ht3).mono ?_
      rintro e w4 ⟨⟨n4, A4, c4, l4, rfl, hi4, hl4⟩, hb4⟩
      have hbx4 := (hbx.below hb3).below hb4
      have x0 := hbx4.cell0
      have x1 := hbx4.cell1
      have f0 := hbx4.free 0
      have f1 := hbx4.free 1
      obtain ⟨k0, k1, k2⟩ := hbx4.back (.bool n4) (.slice A4 l4.length c4)
      go_wp2_with fail
      refine bodyPost_ret (v := .tuple #[.agg #[.bool n4, .slice A4 l4.length c4], .int .i64 0]) (by simp [results, Tryz.results72, go_sem, k0, k2]) rfl ?_
      have hs := hw.size
      have hsb := hb.size
      rw [World.size_alloc, World.size_alloc] at hsb
      have h5 := (hi4.two (p := w.heap.size + 1) (by omega) (.bool n4) (.slice A4 l4.length c4)).mono (a := a) (by omega)
      have hz := HZ.out l3 HV3.out
      rw [Bool.false_and] at hz
      refine ⟨n4, A4, c4, l4, rfl, ?_, b2 (bt (bt (bt hw (bt (ba (ba (b0 _) _) _) hb)) hb3) hb4) (by omega) _ _⟩
      rw [← hz]
      exact h5
    · rcases Nat.mod_two_eq_zero_or_one n with hq2 | hq2
      · rw [hq2] at hmod
        have HQ2 := Lib.hid hq2
        clear hq2
        go_wp2_with fail
        refine (power_gen _ A c l n M hM hl2 hlc hn HF.out (isB_top HB.out) hl1).mono ?_
        rintro e w3 ⟨A3, c3, l3, rfl, hc3, ho3, ht3, hv3, hb3⟩
        have hl3 : l3.length ≤ M := top_len ht3 (by rw [hv3]; exact HF.out _ (Nat.le_refl _))
        have HV3 := Lib.hid hv3
        clear hv3
        go_wp2_with fail
        refine (signed_ip w1 w3 false A3 c3 l3 (by omega) hc3 ho3 ht3).mono ?_
        rintro e w4 ⟨⟨n4, A4, c4, l4, rfl, hi4, hl4⟩, hb4⟩
        have hbx4 := (hbx.below hb3).below hb4
        have x0 := hbx4.cell0
        have x1 := hbx4.cell1
        have f0 := hbx4.free 0
        have f1 := hbx4.free 1
        obtain ⟨k0, k1, k2⟩ := hbx4.back (.bool n4) (.slice A4 l4.length c4)
        go_wp2_with fail
        refine bodyPost_ret (v := .tuple #[.agg #[.bool n4, .slice A4 l4.length c4], .int .i64 0]) (by simp [results, Tryz.results72, go_sem, k0, k2]) rfl ?_
        have hs := hw.size
        have hsb := hb.size
        rw [World.size_alloc, World.size_alloc] at hsb
        have h5 := (hi4.two (p := w.heap.size + 1) (by omega) (.bool n4) (.slice A4 l4.length c4)).mono (a := a) (by omega)
        have hz := HZ.out l3 HV3.out
        rw [HQ2.out, show (true && decide (0 = 1)) = false from rfl] at hz
        refine ⟨n4, A4, c4, l4, rfl, ?_, b2 (bt (bt (bt hw (bt (ba (ba (b0 _) _) _) hb)) hb3) hb4) (by omega) _ _⟩
        rw [← hz]
        exact h5
      · rw [hq2] at hmod
        have HQ2 := Lib.hid hq2
        clear hq2
        go_wp2_with fail
        refine (power_gen _ A c l n M hM hl2 hlc hn HF.out (isB_top HB.out) hl1).mono ?_
        rintro e w3 ⟨A3, c3, l3, rfl, hc3, ho3, ht3, hv3, hb3⟩
        have hl3 : l3.length ≤ M := top_len ht3 (by rw [hv3]; exact HF.out _ (Nat.le_refl _))
        have HV3 := Lib.hid hv3
        clear hv3
        go_wp2_with fail
        refine (signed_ip w1 w3 true A3 c3 l3 (by omega) hc3 ho3 ht3).mono ?_
        rintro e w4 ⟨⟨n4, A4, c4, l4, rfl, hi4, hl4⟩, hb4⟩
        have hbx4 := (hbx.below hb3).below hb4
        have x0 := hbx4.cell0
        have x1 := hbx4.cell1
        have f0 := hbx4.free 0
        have f1 := hbx4.free 1
        obtain ⟨k0, k1, k2⟩ := hbx4.back (.bool n4) (.slice A4 l4.length c4)
        go_wp2_with fail
        refine bodyPost_ret (v := .tuple #[.agg #[.bool n4, .slice A4 l4.length c4], .int .i64 0]) (by simp [results, Tryz.results72, go_sem, k0, k2]) rfl ?_
        have hs := hw.size
        have hsb := hb.size
        rw [World.size_alloc, World.size_alloc] at hsb
        have h5 := (hi4.two (p := w.heap.size + 1) (by omega) (.bool n4) (.slice A4 l4.length c4)).mono (a := a) (by omega)
        have hz := HZ.out l3 HV3.out
        rw [HQ2.out, show (true && decide (1 = 1)) = true from rfl] at hz
        refine ⟨n4, A4, c4, l4, rfl, ?_, b2 (bt (bt (bt hw (bt (ba (ba (b0 _) _) _) hb)) hb3) hb4) (by omega) _ _⟩
        rw [← hz]
        exact h5
  · have hbi : ¬ (1 : Int) < (m : Int) := by omega
    clear hlim hb1
    cases neg
    · go_wp2_with fail
      refine (power_gen _ A c l n M hM hl2 hlc hn HF.out (isB_top HB.out) hl1).mono ?_
      rintro e w3 ⟨A3, c3, l3, rfl, hc3, ho3, ht3, hv3, hb3⟩
      have hl3 : l3.length ≤ M := top_len ht3 (by rw [hv3]; exact HF.out _ (Nat.le_refl _))
      have HV3 := Lib.hid hv3
      clear hv3
      go_wp2_with fail
      refine (signed_ip w1 w3 false A3 c3 l3 (by omega) hc3 ho3 ht3).mono ?_
      rintro e w4 ⟨⟨n4, A4, c4, l4, rfl, hi4, hl4⟩, hb4⟩
      have hbx4 := (hbx.below hb3).below hb4
      have x0 := hbx4.cell0
      have x1 := hbx4.cell1
      have f0 := hbx4.free 0
      have f1 := hbx4.free 1
      obtain ⟨k0, k1, k2⟩ := hbx4.back (.bool n4) (.slice A4 l4.length c4)
      go_wp2_with fail
      refine bodyPost_ret (v := .tuple #[.agg #[.bool n4, .slice A4 l4.length c4], .int .i64 0]) (by simp [results, Tryz.results72, go_sem, k0, k2]) rfl ?_
      have hs := hw.size
      have hsb := hb.size
      rw [World.size_alloc, World.size_alloc] at hsb
      have h5 := (hi4.two (p := w.heap.size + 1) (by omega) (.bool n4) (.slice A4 l4.length c4)).mono (a := a) (by omega)
      have hz := HZ.out l3 HV3.out
      rw [Bool.false_and] at hz
      refine ⟨n4, A4, c4, l4, rfl, ?_, b2 (bt (bt (bt hw (bt (ba (ba (b0 _) _) _) hb)) hb3) hb4) (by omega) _ _⟩
      rw [← hz]
      exact h5
    · rcases Nat.mod_two_eq_zero_or_one n with hq2 | hq2
      · rw [hq2] at hmod
        have HQ2 := Lib.hid hq2
        clear hq2
        go_wp2_with fail
        refine (power_gen _ A c l n M hM hl2 hlc hn HF.out (isB_top HB.out) hl1).mono ?_
        rintro e w3 ⟨A3, c3, l3, rfl, hc3, ho3, ht3, hv3, hb3⟩
        have hl3 : l3.length ≤ M := top_len ht3 (by rw [hv3]; exact HF.out _ (Nat.le_refl _))
        have HV3 := Lib.hid hv3
        clear hv3
        go_wp2_with fail
        refine (signed_ip w1 w3 false A3 c3 l3 (by omega) hc3 ho3 ht3).mono ?_
        rintro e w4 ⟨⟨n4, A4, c4, l4, rfl, hi4, hl4⟩, hb4⟩
        have hbx4 := (hbx.below hb3).below hb4
        have x0 := hbx4.cell0
        have x1 := hbx4.cell1
        have f0 := hbx4.free 0
        have f1 := hbx4.free 1
        obtain ⟨k0, k1, k2⟩ := hbx4.back (.bool n4) (.slice A4 l4.length c4)
        go_wp2_with fail
        refine bodyPost_ret (v := .tuple #[.agg #[.bool n4, .slice A4 l4.length c4], .int .i64 0]) (by simp [results, Tryz.results72, go_sem, k0, k2]) rfl ?_
        have hs := hw.size
        have hsb := hb.size
        rw [World.size_alloc, World.size_alloc] at hsb
        have h5 := (hi4.two (p := w.heap.size + 1) (by omega) (.bool n4) (.slice A4 l4.length c4)).mono (a := a) (by omega)
        have hz := HZ.out l3 HV3.out
        rw [HQ2.out, show (true && decide (0 = 1)) = false from rfl] at hz
        refine ⟨n4, A4, c4, l4, rfl, ?_, b2 (bt (bt (bt hw (bt (ba (ba (b0 _) _) _) hb)) hb3) hb4) (by omega) _ _⟩
        rw [← hz]
        exact h5
      · rw [hq2] at hmod
        have HQ2 := Lib.hid hq2
        clear hq2
        go_wp2_with fail
        refine (power_gen _ A c l n M hM hl2 hlc hn HF.out (isB_top HB.out) hl1).mono ?_
        rintro e w3 ⟨A3, c3, l3, rfl, hc3, ho3, ht3, hv3, hb3⟩
        have hl3 : l3.length ≤ M := top_len ht3 (by rw [hv3]; exact HF.out _ (Nat.le_refl _))
        have HV3 := Lib.hid hv3
        clear hv3
        go_wp2_with fail
        refine (signed_ip w1 w3 true A3 c3 l3 (by omega) hc3 ho3 ht3).mono ?_
        rintro e w4 ⟨⟨n4, A4, c4, l4, rfl, hi4, hl4⟩, hb4⟩
        have hbx4 := (hbx.below hb3).below hb4
        have x0 := hbx4.cell0
        have x1 := hbx4.cell1
        have f0 := hbx4.free 0
        have f1 := hbx4.free 1
        obtain ⟨k0, k1, k2⟩ := hbx4.back (.bool n4) (.slice A4 l4.length c4)
        go_wp2_with fail
        refine bodyPost_ret (v := .tuple #[.agg #[.bool n4, .slice A4 l4.length c4], .int .i64 0]) (by simp [results, Tryz.results72, go_sem, k0, k2]) rfl ?_
        have hs := hw.size
        have hsb := hb.size
        rw [World.size_alloc, World.size_alloc] at hsb
        have h5 := (hi4.two (p := w.heap.size + 1) (by omega) (.bool n4) (.slice A4 l4.length c4)).mono (a := a) (by omega)
        have hz := HZ.out l3 HV3.out
        rw [HQ2.out, show (true && decide (1 = 1)) = true from rfl] at hz
        refine ⟨n4, A4, c4, l4, rfl, ?_, b2 (bt (bt (bt hw (bt (ba (ba (b0 _) _) _) hb)) hb3) hb4) (by omega) _ _⟩
        rw [← hz]
        exact h5
end Go.Proofs.YtgljdfblgpdaaaaGreatDoor
