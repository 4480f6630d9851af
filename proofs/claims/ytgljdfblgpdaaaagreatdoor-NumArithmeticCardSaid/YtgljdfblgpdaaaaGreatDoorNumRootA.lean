/- root and Sqrt, of numbers of any length. -/
import Derived.Test.YtgljdfblgpdaaaaGreatDoorNumPow
import Derived.Test.YtgljdfblgpdaaaaGreatDoorNumDivA
import Derived.Test.YtgljdfblgpdaaaaGreatDoorNumProd
import Derived.Test.YtgljdfblgpdaaaaGreatDoorNumTsM
import Derived.Test.YtgljdfblgpdaaaaGreatDoorNumGuess
set_option linter.unusedSimpArgs false
set_option linter.unusedVariables false
namespace Go.Proofs.YtgljdfblgpdaaaaGreatDoor
open Go.RowKit

set_option maxRecDepth 100000 in
set_option maxHeartbeats 1000000 in
theorem root_gen (w : World) (A : Option Addr) (c : Nat) (l : List Nat) (h : Nat) (Inv : Nat → Nat → Prop) (M : Nat) (hM : M ≤ 100000) (hl2 : l.length ≤ M) (hh : h = (bl l - 1) / 2) (h0 : 0 < val l) (tl : Top l) (hl : WS w A l)
    (hs : Inv 0 1) (hst : ∀ i a, 2 ^ i ≤ h → Inv (h / 2 ^ (i + 1)) a → Inv (h / 2 ^ i) (rootStep (val l) h (h / 2 ^ (i + 1)) (h / 2 ^ i) a)) (hpos : ∀ e a, Inv e a → 0 < a ∧ a < BB M) :
    Calls Tryz.prog 128 #[.slice A l.length c] w fun e w' => ∃ a, Inv h a ∧ Res w (if val l < a * a then a - 1 else a) e w' := by
  have hlp : 0 < l.length := Nat.pos_of_ne_zero (fun h => by have := (val_eq_zero tl).2 h; omega)
  have hz : ((l.length : Int) == 0) = false := beq_eq_false_iff_ne.2 (by omega)
  have hbl : bl l ≤ 3300000 := by unfold bl; rw [if_neg (by omega)]; have := bitLen_le 64 (gd l (l.length - 1)); have e : Lib.bitLen (gd l (l.length - 1)) ≤ 64 := this; omega
  have hh1 : ((bl l : Int) - 1).tdiv 2 = (h : Int) := by
    have hb1 : 1 ≤ bl l := by
      unfold bl; rw [if_neg (by omega)]
      have hx := tl hlp
      have := bitLen_half (x := gd l (l.length - 1)) hx (Nat.lt_trans (hl.lt _) (by decide))
      omega
    rw [Int.tdiv_eq_ediv_of_nonneg (by omega), hh]; omega
  have hh2 : ((bl l : Int) - 1) / 2 = (h : Int) := by
    have hb1 : 1 ≤ bl l := by
      unfold bl; rw [if_neg (by omega)]
      have hx := tl hlp
      have := bitLen_half (x := gd l (l.length - 1)) hx (Nat.lt_trans (hl.lt _) (by decide))
      omega
    omega
  have hhl : h ≤ 1700000 := by omega
  have HS := Lib.hid hs
  have HST := Lib.hid hst
  have HPOS := Lib.hid hpos
  clear hh hs hst hpos
  go_enter Tryz.func128, Tryz.ntmps128
  go_wp2_with fail
  refine (bitLen_any A _ c l _ rfl (by omega) hl).mono ?_
  rintro e w1 ⟨rfl, rfl⟩
  go_wp2_with fail
  refine (Tryz.bits_Len (h : Int) _ (by omega) (by omega)).mono ?_
  rintro e w1 ⟨rfl, rfl⟩
  rw [Int.toNat_natCast]
  have hb64 : Lib.bitLen h ≤ 64 := by unfold Lib.bitLen; exact bitLen_le 64 h
  have hone : Blk (w.alloc (.cells #[.int .u32 1] 83)) w.heap.size [1] := Blk.new w [1] (by simp)
  obtain ⟨W1, hW1⟩ : ∃ W, W = w.alloc (.cells #[.int .u32 1] 83) := ⟨_, rfl⟩
  have hw1 : Below w.heap.size w W1 := by rw [hW1]; exact ba (b0 _) _
  rw [← hW1] at hone ⊢
  clear hW1
  have HBL := Lib.hid (bitLen_spec h (by omega))
  have HBG := Lib.hid (fun i (hi : i < Lib.bitLen h) => show 2 ^ i ≤ h from by
    rcases Nat.lt_or_ge h (2 ^ i) with h1 | h1
    · have := Lib.bitLen_le h i (by omega) h1; omega
    · exact h1)
  go_wp2_with fail
  go_loopw [4, 5, 6] (fun ov dv iv wr => ∃ (j : Nat) (A1 : Option Addr) (c1 : Nat) (l1 : List Nat), ov = .slice A1 l1.length c1 ∧ dv = .int .i64 ((h / 2 ^ j : Nat) : Int) ∧ iv = .int .i64 ((j : Int) - 1) ∧ l1.length ≤ c1 ∧ OwnS w wr A1 l1 ∧ Top l1 ∧ Hid (Inv (h / 2 ^ j) (val l1)) ∧ j ≤ Lib.bitLen h ∧ Below w.heap.size w wr) (fun _ _ iv _ => (intOf iv + 1).toNat)
  case atStart => exact ⟨Lib.bitLen h, some ⟨w.heap.size, 0, none⟩, 1, [1], rfl, by rw [Nat.div_eq_of_lt HBL.out]; rfl, by go_num, Nat.le_refl _, own_of_blk (Nat.le_refl _) hone, fun _ => by simp [gd], by show Inv _ _; rw [Nat.div_eq_of_lt HBL.out]; simpa [val] using HS.out, Nat.le_refl _, hw1⟩
  case round =>
    obtain ⟨j, A1, c1, l1, rfl, rfl, rfl, hc1, ho1, ht1, hv1, hj, hb1⟩ := hrel
    obtain ⟨hp1, hp2⟩ := HPOS.out _ _ hv1.out
    have hl1 : l1.length ≤ M := top_len ht1 hp2
    rcases Nat.eq_zero_or_pos j with rfl | hj0
    · have hv0 : Inv h (val l1) := by have := hv1.out; rwa [Nat.pow_zero, Nat.div_one] at this
      have HV0 := Lib.hid hv0
      have hlen1 : 1 ≤ l1.length := Nat.pos_of_ne_zero (fun h => by have := (val_eq_zero ht1).2 h; omega)
      clear hv0
      go_wp2_with fail
      refine (product_all wr wr A1 A1 l1.length c1 l1.length c1 l1 l1 rfl rfl (by omega) hc1 hc1 ho1.ws ho1.ws (b0 _)).mono ?_
      rintro e w2 ⟨A2, c2, l2, rfl, hc2, ho2, ht2, hv2, hb2⟩
      have hl2' : l2.length ≤ M + M := top_len ht2 (by rw [hv2, BB_add]; exact Nat.mul_lt_mul_of_lt_of_lt hp2 hp2)
      have HV2 := Lib.hid hv2
      clear hv2
      go_wp2_with fail
      refine (compare_any A2 A l2.length c2 l.length c l2 l w2 rfl rfl (by omega) (by omega) ht2 tl ho2.ws (hl.below (bt hb1 hb2))).mono ?_
      rintro e w3 ⟨rfl, hb3⟩
      rw [HV2.out]
      by_cases hgt : val l < val l1 * val l1
      · have hci : (0 : Int) < cmpN (val l1 * val l1) (val l) := by unfold cmpN; rw [if_neg (by omega), if_neg (by omega)]; omega
        have HG := Lib.hid hgt
        clear hgt
        go_wp2_with fail
        obtain ⟨W4, hW4⟩ : ∃ W, W = w3.alloc (.cells #[.int .u32 1] 83) := ⟨_, rfl⟩
        have hone4 : Blk W4 w3.heap.size [1] := by rw [hW4]; exact Blk.new w3 [1] (by simp)
        have h34 : Below w3.heap.size w3 W4 := by rw [hW4]; exact ba (b0 _) _
        rw [← hW4]
        clear hW4
        have hws := hone4.ws (o := 0) (n := 1) (by simp)
        rw [List.drop_zero, show List.take 1 [1] = [1] from rfl] at hws
        refine (difference_any W4 W4 A1 _ l1.length c1 1 1 l1 [1] rfl rfl hlen1 (by omega) (by simp [val]; omega) (ho1.ws.below (bt (bt hb2 hb3) h34)) hws (b0 _)).mono ?_
        rintro e w5 ⟨A5, c5, l5, rfl, hc5, ho5, ht5, hv5, hb5⟩
        have HV5 := Lib.hid hv5
        clear hv5
        go_wp2_with fail
        go_ret
        have hw4 := bt hb1 (bt (bt hb2 hb3) h34)
        exact ⟨val l1, HV0.out, A5, c5, l5, rfl, hc5, ho5.mono hw4.size, ht5, by rw [if_pos HG.out, HV5.out]; simp [val], bt hw4 hb5⟩
      · have hci : ¬ (0 : Int) < cmpN (val l1 * val l1) (val l) := by unfold cmpN; split <;> (try split) <;> omega
        have HG := Lib.hid hgt
        clear hgt
        go_wp2_with fail
        go_ret
        exact ⟨val l1, HV0.out, A1, c1, l1, rfl, hc1, ho1.below (bt hb2 hb3), ht1, by rw [if_neg HG.out], bt hb1 (bt hb2 hb3)⟩
    · obtain ⟨i, rfl⟩ : ∃ i, j = i + 1 := ⟨j - 1, by omega⟩
      have hi0 : (0 : Int) ≤ (i : Int) := by omega
      have hge := HBG.out i (by omega)
      have hstep := HST.out i _ hge hv1.out
      have hinv := HPOS.out _ _ hstep
      obtain ⟨d, hd⟩ : ∃ d, d = h / 2 ^ i := ⟨_, rfl⟩
      obtain ⟨e, he⟩ : ∃ e, e = h / 2 ^ (i + 1) := ⟨_, rfl⟩
      have hed : e = d / 2 := by rw [he, hd, Nat.div_div_eq_div_mul, ← Nat.pow_succ]
      have hd1 : 1 ≤ d := by rw [hd]; exact (Nat.le_div_iff_mul_le (Nat.two_pow_pos i)).2 (by omega)
      have hdh : d ≤ h := by rw [hd]; exact Nat.div_le_self _ _
      have hdi : (h : Int) / 2 ^ i = (d : Int) := by rw [hd]; simp
      rw [← he] at hstep hv1 ⊢
      rw [← hd] at hstep
      obtain ⟨n1, hn1⟩ : ∃ n1, n1 = 2 * h - e - d + 1 := ⟨_, rfl⟩
      obtain ⟨n2, hn2⟩ : ∃ n2, n2 = d - e - 1 := ⟨_, rfl⟩
      have hn1i : 2 * (h : Int) - (e : Int) - (d : Int) + 1 = (n1 : Int) := by omega
      have hn2i : (d : Int) - (e : Int) - 1 = (n2 : Int) := by omega
      unfold rootStep at hstep
      rw [← hn1, ← hn2] at hstep
      have hn1l : n1 ≤ 4000000 := by omega
      have hn2l : n2 ≤ 4000000 := by omega
      have hehl : e ≤ h := by omega
      have HSTEP := Lib.hid hstep
      have HD := Lib.hid hd
      clear hge hstep hinv he hed hn1 hn2 hd
      go_wp2_with fail
      refine (shiftDown_any wr wr A c l n1 (by omega) (by omega) (hl.below hb1) (b0 _)).mono ?_
      rintro e w2 ⟨A2, c2, l2, rfl, hc2, ho2, ht2, hv2, hb2⟩
      have hl2' : l2.length ≤ M := top_len ht2 (by rw [hv2]; exact Nat.lt_of_le_of_lt (Nat.div_le_self _ _) (Nat.lt_of_lt_of_le (val_lt hl.1) (BB_mono hl2)))
      have HV2 := Lib.hid hv2
      clear hv2
      go_wp2_with fail
      refine (divide_any w2 w2 A2 A1 c2 c1 l2 l1 (by omega) (by omega) (Nat.pos_of_ne_zero (fun h => by have := (val_eq_zero ht1).2 h; omega)) ht2 ht1 ho2.ws (ho1.ws.below hb2) (b0 _)).mono ?_
      rintro e w3 ⟨A3, c3, l3, B3, d3, k3, rfl, hc3, ho3, ht3, hv3, _, _, _, _, hb3⟩
      have HV3 := Lib.hid hv3
      clear hv3
      go_wp2_with fail
      refine (shiftUp_any w3 w3 A1 c1 l1 n2 (by omega) (by omega) (ho1.ws.below (bt hb2 hb3)) (b0 _)).mono ?_
      rintro e w4 ⟨A4, c4, l4, rfl, hc4, ho4, ht4, hv4, hb4⟩
      have hsum : val l4 + val l3 = val l1 * 2 ^ n2 + val l / 2 ^ n1 / val l1 := by rw [hv4, HV3.out, HV2.out]
      have hinv2 := (HPOS.out _ _ HSTEP.out).2
      have hl4 : l4.length ≤ M := top_len ht4 (by omega)
      have hl3 : l3.length ≤ M := top_len ht3 (by omega)
      have HSUM := Lib.hid hsum
      clear hsum hinv2 hv4
      go_wp2_with fail
      refine (sum_any w4 w4 A4 A3 l4.length c4 l3.length c3 l4 l3 rfl rfl (by omega) (by omega) ho4.ws (ho3.ws.below hb4) (b0 _)).mono ?_
      rintro e w5 ⟨A5, c5, l5, rfl, hc5, ho5, ht5, hv5, hb5⟩
      have HV5 := Lib.hid hv5
      clear hv5
      have hw5 := bt hb1 (bt (bt (bt hb2 hb3) hb4) hb5)
      have hs4 := (bt hb1 (bt (bt hb2 hb3) hb4)).size
      go_wp2_with fail
      go_roundw
      case rel => exact ⟨i, A5, c5, l5, rfl, by rw [HD.out], by go_num, hc5, ho5.mono hs4, ht5, by show Inv _ _; rw [HV5.out, HSUM.out, ← HD.out]; exact HSTEP.out, by omega, hw5⟩
      case measure => simp [intOf]

/-- What root's steps keep: the root of the highest bits, but for less than 1. -/
def RInv (W h e a : Nat) : Prop := Near (W / 2 ^ (2 * h - 2 * e)) a
theorem two_split {m n k : Nat} (h : n = m + k) : 2 ^ n = 2 ^ m * 2 ^ k := by rw [h, Nat.pow_add]
theorem rinv_start {W h : Nat} (h1 : 2 ^ (2 * h) ≤ W) (h2 : W < 2 ^ (2 * h + 2)) : RInv W h 0 1 := by
  unfold RInv Near
  simp only [Nat.mul_zero, Nat.sub_zero]
  have hp := Nat.two_pow_pos (2 * h)
  have e1 : 0 < W / 2 ^ (2 * h) := Nat.div_pos h1 hp
  have e2 : W / 2 ^ (2 * h) < 4 := (Nat.div_lt_iff_lt_mul hp).2 (by rw [two_split (n := 2 * h + 2) (m := 2) (k := 2 * h) (by omega)] at h2; exact h2)
  omega
theorem rinv_big {W h e a : Nat} (h1 : 2 ^ (2 * h) ≤ W) (he : e ≤ h) (h : RInv W h e a) : 2 ^ e ≤ a := by
  obtain ⟨h3, _, h4⟩ := h
  have hn : 2 ^ (2 * e) ≤ W / 2 ^ (2 * h - 2 * e) := (Nat.le_div_iff_mul_le (Nat.two_pow_pos _)).2 (by rw [← Nat.pow_add, show 2 * e + (2 * h - 2 * e) = 2 * h by omega]; exact h1)
  have e2 : 2 ^ (2 * e) = 2 ^ e * 2 ^ e := two_split (by omega)
  have := sq_lt (a := 2 ^ e) (b := a + 1) (by omega)
  omega
theorem rinv_step {W h : Nat} (h1 : 2 ^ (2 * h) ≤ W) (i a : Nat) (hi : 2 ^ i ≤ h) (hR : RInv W h (h / 2 ^ (i + 1)) a) : RInv W h (h / 2 ^ i) (rootStep W h (h / 2 ^ (i + 1)) (h / 2 ^ i) a) := by
  obtain ⟨d, hd⟩ : ∃ d, d = h / 2 ^ i := ⟨_, rfl⟩
  obtain ⟨e, he⟩ : ∃ e, e = h / 2 ^ (i + 1) := ⟨_, rfl⟩
  have hed : e = d / 2 := by rw [he, hd, Nat.div_div_eq_div_mul, ← Nat.pow_succ]
  have hd1 : 1 ≤ d := by rw [hd]; exact (Nat.le_div_iff_mul_le (Nat.two_pow_pos i)).2 (by omega)
  have hdh : d ≤ h := by rw [hd]; exact Nat.div_le_self _ _
  rw [← he] at hR ⊢
  rw [← hd]
  have hbig := rinv_big h1 (by omega) hR
  have hK : 2 ^ (d - e - 1) ≤ a := Nat.le_trans (Nat.pow_le_pow_right (by decide) (by omega)) hbig
  have key := newton (n := W / 2 ^ (2 * h - 2 * d)) (a := a) (K := 2 ^ (d - e - 1)) (Nat.two_pow_pos _) hK (by
    rw [Nat.div_div_eq_div_mul]
    have e1 : 2 * 2 ^ (d - e - 1) = 2 ^ (d - e) := by rw [two_split (n := d - e) (m := 1) (k := d - e - 1) (by omega)]
    rw [e1, ← Nat.pow_add, ← Nat.pow_add, show 2 * h - 2 * d + (d - e + (d - e)) = 2 * h - 2 * e by omega]
    exact hR)
  rw [Nat.div_div_eq_div_mul W, show 4 * 2 ^ (d - e - 1) = 2 ^ (d - e + 1) from by rw [two_split (n := d - e + 1) (m := 2) (k := d - e - 1) (by omega)], ← Nat.pow_add, show 2 * h - 2 * d + (d - e + 1) = 2 * h - e - d + 1 by omega] at key
  exact key
theorem rinv_pos {W h e a M : Nat} (hW : W < BB M) (h : RInv W h e a) : 0 < a ∧ a < BB (M + 1) := by
  obtain ⟨h1, h2, _⟩ := h
  have h3 := Nat.div_le_self W (2 ^ (2 * h - 2 * e))
  refine ⟨h1, ?_⟩
  rw [BB_succ]
  rcases Nat.lt_or_ge 1 a with h4 | h4
  · have := Nat.le_mul_of_pos_left (a - 1) (show 0 < a - 1 by omega)
    omega
  · have := BB_pos M
    omega

set_option maxRecDepth 100000 in
set_option maxHeartbeats 400000 in
theorem Sqrt_gen (a w : World) (A : Option Addr) (c : Nat) (l : List Nat) (h : Nat) (Inv : Nat → Nat → Prop) (M : Nat) (hM : M ≤ 100000) (hl2 : l.length ≤ M) (hh : h = (bl l - 1) / 2) (h0 : 0 < val l) (hB : isB false l = true) (hl : WS w A l)
    (hs : Inv 0 1) (hst : ∀ i a, 2 ^ i ≤ h → Inv (h / 2 ^ (i + 1)) a → Inv (h / 2 ^ i) (rootStep (val l) h (h / 2 ^ (i + 1)) (h / 2 ^ i) a)) (hpos : ∀ e a, Inv e a → 0 < a ∧ a < BB M) (hw : Below a.heap.size a w) :
    Calls Tryz.prog 73 #[.agg #[.bool false, .slice A l.length c]] w fun e w' => ∃ r n1 A1 c1 l1, Inv h r ∧ e = .returned (.tuple #[.agg #[.bool n1, .slice A1 l1.length c1], .int .i64 0]) ∧ IP a w' n1 A1 c1 l1 ((if val l < r * r then r - 1 else r : Nat) : Int) ∧ Below a.heap.size a w' := by
  have HB := Lib.hid hB
  have HRW := Lib.hid (fun (W : World) hW => root_gen W A c l h Inv M hM hl2 hh h0 (isB_top hB) hW hs hst hpos)
  have HPOS := Lib.hid hpos
  clear hB hh h0 hs hst hpos
  go_enter Tryz.func73, Tryz.ntmps73
  go_wp2_with fail
  refine (Is_any false A _ c l _ rfl (by omega) (hl.below (ba (ba (b0 _) _) _))).mono ?_
  rintro e w1 ⟨rfl, hb⟩
  rw [HB.out]
  have hbx := (Box2.new (w.alloc (.cells #[.bool false, .slice A l.length c] 24)) (.bool false) (.slice none 0 0)).below hb
  rw [World.size_alloc] at hbx
  have hby := ((Box2.new w (.bool false) (.slice A l.length c)).alloc (.cells #[.bool false, .slice none 0 0] 24)).below hb
  have y0 := hby.cell0
  have y1 := hby.cell1
  have hl1 : WS w1 A l := hl.below (bt (ba (ba (b0 _) _) _) hb)
  go_wp2_with fail
  refine (HRW.out w1 hl1).mono ?_
  rintro e w3 ⟨r, hr, A3, c3, l3, rfl, hc3, ho3, ht3, hv3, hb3⟩
  have hl3 : l3.length ≤ M := top_len ht3 (by have := (HPOS.out _ _ hr).2; rw [hv3]; split <;> omega)
  have HV3 := Lib.hid hv3
  have HR := Lib.hid hr
  clear hv3 hr
  go_wp2_with fail
  refine (signed_ip w1 w3 false A3 c3 l3 (by omega) hc3 ho3 ht3).mono ?_
  rintro e w4 ⟨⟨n4, A4, c4, l4, rfl, hi4, hl4⟩, hb4⟩
  have hbx4 := (hbx.below hb3).below hb4
  have x0 := hbx4.cell0
  have x1 := hbx4.cell1
  have f0 := hbx4.free 0
  have f1 := hbx4.free 1
  obtain ⟨k0, k1, k2⟩ := hbx4.back (.bool n4) (.slice A4 l4.length c4)
  go_wp2_with fail
  refine bodyPost_ret (v := .tuple #[.agg #[.bool n4, .slice A4 l4.length c4], .int .i64 0]) (by simp [results, Tryz.results73, go_sem, k0, k2]) rfl ?_
  have hs := hw.size
  have hsb := hb.size
  rw [World.size_alloc, World.size_alloc] at hsb
  have h5 := (hi4.two (p := w.heap.size + 1) (by omega) (.bool n4) (.slice A4 l4.length c4)).mono (a := a) (by omega)
  refine ⟨r, n4, A4, c4, l4, HR.out, rfl, ?_, b2 (bt (bt (bt hw (bt (ba (ba (b0 _) _) _) hb)) hb3) hb4) (by omega) _ _⟩
  rw [show zI false l3 = ((val l3 : Nat) : Int) from rfl, HV3.out] at h5
  exact h5


/-- Sqrt of an integer in canonical form that is not below 0. -/
theorem Sqrt_any (a w : World) (A : Option Addr) (c : Nat) (l : List Nat) (hm : l.length ≤ 90000) (hB : isB false l = true) (hl : WS w A l) (h0 : 0 < val l) (hw : Below a.heap.size a w) :
    Calls Tryz.prog 73 #[.agg #[.bool false, .slice A l.length c]] w fun e w' => ∃ (r : Nat) (n1 : Bool) (A1 : Option Addr) (c1 : Nat) (l1 : List Nat), r * r ≤ val l ∧ val l < (r + 1) * (r + 1) ∧ e = .returned (.tuple #[.agg #[.bool n1, .slice A1 l1.length c1], .int .i64 0]) ∧ IP a w' n1 A1 c1 l1 (r : Int) ∧ Below a.heap.size a w' := by
  have hlp : 0 < l.length := Nat.pos_of_ne_zero (fun h => by have := (val_eq_zero (isB_top hB)).2 h; omega)
  obtain ⟨b1, b2, b3, b4⟩ := bl_bound hl.1 (isB_top hB) hlp
  obtain ⟨h, hh⟩ : ∃ h, h = (bl l - 1) / 2 := ⟨_, rfl⟩
  have g1 : 2 ^ (2 * h) ≤ val l := Nat.le_trans (Nat.pow_le_pow_right (by decide) (by omega)) b2
  have g2 : val l < 2 ^ (2 * h + 2) := Nat.lt_of_lt_of_le b1 (Nat.pow_le_pow_right (by decide) (by omega))
  refine (Sqrt_gen a w A c l h (RInv (val l) h) (l.length + 1) (by omega) (by omega) hh h0 hB hl (rinv_start g1 g2) (rinv_step g1) (fun e b hR => rinv_pos (val_lt hl.1) hR) hw).mono ?_
  rintro e w' ⟨r, n1, A1, c1, l1, hr, he, hi, hb⟩
  have hN : Near (val l) r := by
    have := hr
    unfold RInv at this
    rwa [Nat.sub_self, Nat.pow_zero, Nat.div_one] at this
  exact ⟨_, n1, A1, c1, l1, (near_end hN).1, (near_end hN).2, he, hi, hb⟩
end Go.Proofs.YtgljdfblgpdaaaaGreatDoor
