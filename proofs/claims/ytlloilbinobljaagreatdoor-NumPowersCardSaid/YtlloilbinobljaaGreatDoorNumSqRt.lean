/- The specification's Sqrt. -/
import Derived.Test.YtlloilbinobljaaGreatDoorNumSpB
import Derived.Test.YtlloilbinobljaaGreatDoorNumBackV
set_option linter.unusedSimpArgs false
set_option linter.unusedVariables false
namespace Go.Proofs.YtlloilbinobljaaGreatDoor
open Go.RowKit Go.Shelf

theorem one_at (W : World) : WS (W.alloc (.cells #[.int .u32 1] 83)) (some ⟨W.heap.size, 0, none⟩) [1] := by
  have hone : Blk (W.alloc (.cells #[.int .u32 1] 83)) W.heap.size [1] := Blk.new W [1] (by simp)
  have hws := hone.ws (o := 0) (n := 1) (by simp)
  rwa [List.drop_zero, show List.take 1 [1] = [1] from rfl] at hws
/-- Between two rounds: R is the root of V but for less than 2^K. -/
def SqI (V K R : Nat) : Prop := R * R ≤ V ∧ V < (R + 2 ^ K) * (R + 2 ^ K)
theorem SqI.start {V b : Nat} (h : V < 2 ^ b) : SqI V (b / 2 + 1) 0 := by
  refine ⟨by omega, ?_⟩
  rw [Nat.zero_add, ← Nat.pow_add]
  exact Nat.lt_of_lt_of_le h (Nat.pow_le_pow_right (by decide) (by omega))
theorem SqI.yes {V k R : Nat} (h : SqI V (k + 1) R) (hle : (R + 2 ^ k) * (R + 2 ^ k) ≤ V) : SqI V k (R + 2 ^ k) := by
  refine ⟨hle, ?_⟩
  have e : R + 2 ^ k + 2 ^ k = R + 2 ^ (k + 1) := by rw [Nat.pow_succ]; omega
  rw [e]
  exact h.2
theorem SqI.no {V k R : Nat} (h : SqI V (k + 1) R) (hlt : V < (R + 2 ^ k) * (R + 2 ^ k)) : SqI V k R := ⟨h.1, hlt⟩
theorem SqI.le {V k R : Nat} (h : SqI V k R) : R ≤ V := by
  rcases Nat.eq_zero_or_pos R with h0 | h0
  · omega
  · have := Nat.le_mul_of_pos_right R h0
    have := h.1
    omega

set_option maxRecDepth 100000 in
set_option maxHeartbeats 2000000 in
theorem RSqrt_val (w : World) (A : Option Addr) (c : Nat) (l : List Nat) (hm : l.length ≤ 200) (hB : isB false l = true) (hl : WS w A l) :
    Calls Tryz.prog 28 #[.agg #[.bool false, .slice A l.length c]] w (RSQ w (val l : Int)) := by
  have HB := Lib.hid hB
  have hT := isB_top hB
  have hbl : val l < 2 ^ bl l := bl_lt hl.1 hT
  have hbl2 : bl l ≤ 32 * l.length := by
    rcases Nat.eq_zero_or_pos l.length with h | h
    · unfold bl; rw [if_pos h]; omega
    · exact (bl_bound hl.1 hT h).2.2.1
  have HP : Hid (∀ k, k ≤ bl l / 2 → 2 ^ k ≤ BB l.length) := Lib.hid (fun k hk => by rw [bb_pow]; exact Nat.pow_le_pow_right (by decide) (by omega))
  have HST := Lib.hid (SqI.start hbl)
  have HBL := Lib.hid (RbitsOf_any A _ c l · rfl (by omega))
  obtain ⟨b, hb⟩ : ∃ b, b = bl l := ⟨_, rfl⟩
  have hbq : (b : Int).tdiv 2 = ((b / 2 : Nat) : Int) := by rw [Int.tdiv_eq_ediv_of_nonneg (by omega)]; simp
  have hbq2 : (b : Int) / 2 = ((b / 2 : Nat) : Int) := by simp
  rw [← hb] at HP HST HBL hbl2
  have HT := Lib.hid hT
  have HLV := Lib.hid (val_lt hl.1)
  obtain ⟨h, hh⟩ : ∃ h, h = b / 2 := ⟨_, rfl⟩
  rw [← hh] at hbq hbq2 HP HST
  have hhl : h ≤ 3200 := by omega
  clear hbl hT hb hh hB
  go_enter Tryz.func28, Tryz.ntmps28
  go_wp2_with fail
  refine (RIs_any false A _ c l _ rfl (by omega) (hl.below (ba (ba (b0 _) _) _))).mono ?_
  rintro e w1 ⟨rfl, hb1⟩
  rw [HB.out]
  have hbx := (Box2.new (w.alloc (.cells #[.bool false, .slice A l.length c] 24)) (.bool false) (.slice none 0 0)).below hb1
  rw [World.size_alloc] at hbx
  have hby := ((Box2.new w (.bool false) (.slice A l.length c)).alloc (.cells #[.bool false, .slice none 0 0] 24)).below hb1
  have hK := bt (ba (ba (b0 w) _) _) hb1
  have y0 := hby.cell0
  have y1 := hby.cell1
  have hws1 := hl.below hK
  clear hb1
  go_wp2_with fail
  refine (HBL.out w1 hws1).mono ?_
  rintro e w1' ⟨rfl, rfl⟩
  go_wp2_with fail
  go_loopw [4, 5] (fun rv kv wr => ∃ (K : Nat) (A1 : Option Addr) (c1 : Nat) (l1 : List Nat), kv = .int .i64 ((K : Int) - 1) ∧ K ≤ h + 1 ∧ rv = .slice A1 l1.length c1 ∧ l1.length ≤ c1 ∧ WS wr A1 l1 ∧ Top l1 ∧ Hid (SqI (val l) K (val l1)) ∧ Below w1.heap.size w1 wr) (fun _ kv _ => (intOf kv + 1).toNat)
  case atStart => exact ⟨h + 1, none, 0, [], by go_num, Nat.le_refl _, rfl, Nat.le_refl _, WS.nil_ _ _, top_nil, HST, b0 _⟩
  case round =>
    obtain ⟨K, A1, c1, l1, rfl, hKh, rfl, hc1, hw1, ht1, hI, hbl⟩ := hrel
    have hlen1 : l1.length ≤ 201 := by
      have := len_le ht1 hl.1 hI.out.le
      omega
    obtain ⟨wo, rfl⟩ : ∃ x : World, x = wr := ⟨_, rfl⟩
    have HT0 : Hid (∀ x ∈ l1, x < 4294967296) := Lib.hid hw1.1
    have hbx2 := hbx.below hbl
    have hby2 := hby.below hbl
    rcases Nat.eq_zero_or_pos K with rfl | hK0
    · have hsq := hI.out
      have hM := Rmade_any wo wo false A1 l1.length c1 l1 rfl (by omega) hc1 hw1 (b0 _)
      have HM := Lib.hid hM
      clear hM hw1
      go_wp2_with fail
      refine HM.out.mono ?_
      rintro e w5 ⟨n5, A5, c5, l5, rfl, hc5, hs5, hB5, hz5, hb5⟩
      have hbx5 := hbx2.below hb5
      have x0 := hbx5.cell0
      have x1 := hbx5.cell1
      have f0 := hbx5.free 0
      have f1 := hbx5.free 1
      obtain ⟨k0, k1, k2⟩ := hbx5.back (.bool n5) (.slice A5 l5.length c5)
      have hzz : zI n5 l5 = (val l1 : Int) := by rw [hz5]; rfl
      have HZ5 := Lib.hid hzz
      have HB5 := Lib.hid hB5
      have HSQ := Lib.hid hsq
      have HS5 := Lib.hid hs5
      clear hzz hz5 hB5 hsq hs5
      go_wp2_with fail
      refine bodyPost_ret (v := .tuple #[.agg #[.bool n5, .slice A5 l5.length c5], .int .i64 0]) (by simp [results, Tryz.results28, go_sem, k0, k2]) rfl ?_
      have h0 := HSQ.out
      refine ⟨(val l1 : Int), by omega, ?_, ?_, n5, A5, c5, l5, rfl, ⟨hc5, HS5.out.two (ws_off_box hbx5 (by simp) HS5.out) _ _, HB5.out, HZ5.out, ?_⟩, b2 (bt (bt hK hbl) hb5) (by omega) _ _⟩
      · have := h0.1
        exact_mod_cast this
      · have := h0.2
        rw [show (2 : Nat) ^ 0 = 1 from rfl] at this
        exact_mod_cast this
      · have h1 : val l5 = val l1 := by
          have := val_abs HZ5.out
          simpa using this
        have := top_len (isB_top HB5.out) (by rw [h1]; exact val_lt HT0.out)
        omega
    · obtain ⟨k, rfl⟩ : ∃ k, K = k + 1 := ⟨K - 1, by omega⟩
      rw [show (((k + 1 : Nat) : Int) - 1) = (k : Int) from by omega]
      have hpk := HP.out k (by omega)
      have HW1 := Lib.hid hw1
      have HT1 := Lib.hid ht1
      have hv1 := val_lt hw1.1
      have HSUM : Hid (val l1 + 2 ^ k < BB 202) := Lib.hid (by
        have h1 := HLV.out
        have h2 := hI.out.le
        have h3 : BB l.length ≤ BB 201 := Nat.pow_le_pow_right (by decide) (by omega)
        have h4 : BB 202 = BB 201 * 4294967296 := BB_succ 201
        omega)
      obtain ⟨R, hR⟩ : ∃ R, R = val l1 := ⟨_, rfl⟩
      obtain ⟨P, hP⟩ : ∃ P, P = 2 ^ k := ⟨_, rfl⟩
      have HR := Lib.hid hR
      have HPP := Lib.hid hP
      clear hpk hv1 hw1 ht1 hR hP
      go_wp2_with fail
      refine (Rshifted_any _ 1 1 [1] k _ rfl (by decide) (by omega) (one_at _)).mono ?_
      rintro e w2 hsh
      obtain ⟨A2, c2, l2, rfl, hc2, hs2, ht2, hv2, hb2⟩ := hsh.wsp
      have hb2 := bt (ba (b0 wo) _) hb2
      have hl2 : l2.length ≤ 202 := top_len ht2 (by rw [hv2]; have := HSUM.out; simp [val] at *; omega)
      have HV2 := Lib.hid hv2
      clear hv2 hsh
      go_wp2_with fail
      refine (RaddWords_any A1 A2 _ c1 _ c2 l1 l2 w2 rfl rfl (by omega) (by omega) (HW1.out.below hb2) hs2).mono ?_
      rintro e w3 ⟨A3, c3, l3, rfl, hc3, hs3, ht3, hv3, hb3⟩
      have hb3 := bt hb2 hb3
      have hl3 : l3.length ≤ 202 := top_len ht3 (by
        have h1 := HSUM.out
        have h2 := HV2.out
        have h3 := HR.out
        have h4 := HPP.out
        rw [hv3, h2]
        simp only [val]
        omega)
      have hv3' : val l3 = R + P := by
        rw [hv3, HV2.out, HR.out, HPP.out]
        simp [val]
      have HV3 := Lib.hid hv3'
      have HT3 := Lib.hid ht3
      have HS3 := Lib.hid hs3
      have HBY3 := Lib.hid (hby2.below hb3)
      have HWS3 := Lib.hid ((hws1.below hbl).below hb3)
      have z1 := HBY3.out.cell1
      clear hv3 hv3' ht3 hs3 hs2 ht2 hb2 hws1 y0 y1 hbx2 hby2
      obtain ⟨cv, hcv⟩ : ∃ cv, cv = cmpN ((R + P) * (R + P)) (val l) := ⟨_, rfl⟩
      go_wp2_with fail
      rcases Nat.lt_or_ge (val l) ((R + P) * (R + P)) with hle | hle
      · have hcvi : ¬ cv ≤ 0 := by rw [hcv]; unfold cmpN; (repeat' split) <;> omega
        have HCV : Hid (∀ v, v = (R + P) * (R + P) → cmpN v (val l) = cv) := Lib.hid (fun v hv => by rw [hv, hcv])
        have HNX : Hid (SqI (val l) k (val l1)) := Lib.hid (by
          have h1 := hI.out
          skip
          refine h1.no ?_
          rw [← HPP.out, ← HR.out]
          exact hle)
        clear hcv hle
        go_region_held3 (fun W => W.cell? ⟨w.heap.size, 1, none⟩ = some (.slice A l.length c)) (first | exact z1 | exact v1 | exact u1 | go_keep)
          (first
            | (go_at_call 106; refine (RmulWords_any A3 A3 _ c3 _ c3 l3 l3 _ rfl rfl (by omega) (by omega) (HS3.out.below (bd (b0 _) _)) (HS3.out.below (bd (b0 _) _))).mono ?_; rintro e w4 ⟨A4, c4, l4, rfl, hc4, hs4, ht4, hv4, hb4⟩; have hb4 := bt (bd (b0 w3) _) hb4; have hl4 : l4.length ≤ l3.length + l3.length := top_len ht4 (by rw [hv4, BB_add]; exact Nat.mul_lt_mul_of_lt_of_lt (val_lt HS3.out.1) (val_lt HS3.out.1)); have HC4 := Lib.hid (HCV.out (val l4) (by rw [hv4, HV3.out])); clear hv4; have v1 := (HBY3.out.below hb4).cell1)
            | (go_at_call 103; refine (RcmpWords_any A4 A _ c4 _ c l4 l _ rfl rfl (by omega) (by omega) ht4 HT.out (by first | exact hs4 | exact hs4.below (bd (b0 _) _)) ((HWS3.out.below hb4).below (by first | exact b0 _ | exact bd (b0 _) _))).mono ?_; rintro e w5 ⟨rfl, hb5⟩; have hb5 := bt (bt hb4 (by first | exact b0 _ | exact bd (b0 _) _)) hb5; rw [HC4.out]; have u1 := (HBY3.out.below hb5).cell1))
        go_wp2_with fail
        go_roundw
        case rel => exact ⟨k, A1, c1, l1, rfl, by omega, rfl, hc1, HW1.out.below (bt hb3 hb5), HT1.out, HNX, bt (bt hbl hb3) hb5⟩
        case measure => simp [intOf]
      · have hcvi : cv ≤ 0 := by rw [hcv]; unfold cmpN; (repeat' split) <;> omega
        have HCV : Hid (∀ v, v = (R + P) * (R + P) → cmpN v (val l) = cv) := Lib.hid (fun v hv => by rw [hv, hcv])
        have HNX : Hid (SqI (val l) k (val l3)) := Lib.hid (by
          have h1 := hI.out
          rw [HV3.out, HPP.out, HR.out]
          refine h1.yes ?_
          rw [← HPP.out, ← HR.out]
          exact hle)
        clear hcv hle
        go_region_held3 (fun W => W.cell? ⟨w.heap.size, 1, none⟩ = some (.slice A l.length c)) (first | exact z1 | exact v1 | exact u1 | go_keep)
          (first
            | (go_at_call 106; refine (RmulWords_any A3 A3 _ c3 _ c3 l3 l3 _ rfl rfl (by omega) (by omega) (HS3.out.below (bd (b0 _) _)) (HS3.out.below (bd (b0 _) _))).mono ?_; rintro e w4 ⟨A4, c4, l4, rfl, hc4, hs4, ht4, hv4, hb4⟩; have hb4 := bt (bd (b0 w3) _) hb4; have hl4 : l4.length ≤ l3.length + l3.length := top_len ht4 (by rw [hv4, BB_add]; exact Nat.mul_lt_mul_of_lt_of_lt (val_lt HS3.out.1) (val_lt HS3.out.1)); have HC4 := Lib.hid (HCV.out (val l4) (by rw [hv4, HV3.out])); clear hv4; have v1 := (HBY3.out.below hb4).cell1)
            | (go_at_call 103; refine (RcmpWords_any A4 A _ c4 _ c l4 l _ rfl rfl (by omega) (by omega) ht4 HT.out (by first | exact hs4 | exact hs4.below (bd (b0 _) _)) ((HWS3.out.below hb4).below (by first | exact b0 _ | exact bd (b0 _) _))).mono ?_; rintro e w5 ⟨rfl, hb5⟩; have hb5 := bt (bt hb4 (by first | exact b0 _ | exact bd (b0 _) _)) hb5; rw [HC4.out]; have u1 := (HBY3.out.below hb5).cell1))
        go_wp2_with fail
        go_roundw
        case rel => exact ⟨k, A3, c3, l3, rfl, by omega, rfl, hc3, HS3.out.below hb5, HT3.out, HNX, bt (bt hbl hb3) hb5⟩
        case measure => simp [intOf]
end Go.Proofs.YtlloilbinobljaaGreatDoor
