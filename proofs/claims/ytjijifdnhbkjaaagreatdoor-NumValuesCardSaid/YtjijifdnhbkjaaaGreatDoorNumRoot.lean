/- root, of at most two words: the walk, for whatever its steps keep. -/
import Derived.Test.YtjijifdnhbkjaaaGreatDoorNumShift2
import Derived.Test.YtjijifdnhbkjaaaGreatDoorNumPow
import Derived.Test.YtjijifdnhbkjaaaGreatDoorNumSum
import Derived.Test.YtjijifdnhbkjaaaGreatDoorNumDiff
namespace Go.Proofs.YtjijifdnhbkjaaaGreatDoor
open Go.RowKit

/-- One step of the root: from the root a of the number of e bits to that of d bits. -/
def rootStep (W h e d a : Nat) : Nat := a * 2 ^ (d - e - 1) + W / 2 ^ (2 * h - e - d + 1) / a

set_option maxRecDepth 100000 in
set_option maxHeartbeats 1000000 in
theorem root_walk (w : World) (A : Option Addr) (c : Nat) (l : List Nat) (h : Nat) (Inv : Nat → Nat → Prop) (hl2 : l.length ≤ 2) (hh : h = (bl l - 1) / 2) (h0 : 0 < val l) (tl : Top l) (hl : WS w A l)
    (hs : Inv 0 1) (hst : ∀ i a, 2 ^ i ≤ h → Inv (h / 2 ^ (i + 1)) a → Inv (h / 2 ^ i) (rootStep (val l) h (h / 2 ^ (i + 1)) (h / 2 ^ i) a)) (hpos : ∀ e a, Inv e a → 0 < a ∧ a < BB 2) :
    Calls Tryz.prog 69 #[.slice A l.length c] w fun e w' => ∃ a, Inv h a ∧ Res w (if val l < a * a then a - 1 else a) e w' := by
  have hlp : 0 < l.length := Nat.pos_of_ne_zero (fun h => by have := (val_eq_zero tl).2 h; omega)
  have hz : ((l.length : Int) == 0) = false := beq_eq_false_iff_ne.2 (by omega)
  have hbl : bl l ≤ 96 := by unfold bl; rw [if_neg (by omega)]; have := bitLen_le 64 (gd l (l.length - 1)); have e : Lib.bitLen (gd l (l.length - 1)) ≤ 64 := this; omega
  have hh1 : ((bl l : Int) - 1).tdiv 2 = (h : Int) := by
    have hb1 : 1 ≤ bl l := by
      unfold bl; rw [if_neg (by omega)]
      have hx := tl hlp
      have := bitLen_half (x := gd l (l.length - 1)) hx (Nat.lt_trans (hl.lt _) (by decide))
      omega
    rw [Int.tdiv_eq_ediv_of_nonneg (by omega), hh]; omega
  have hh2 : ((bl l : Int) - 1) / 2 = (h : Int) := by
    have hb1 : 1 ≤ bl l := by
      unfold bl; rw [if_neg (by omega)]
      have hx := tl hlp
      have := bitLen_half (x := gd l (l.length - 1)) hx (Nat.lt_trans (hl.lt _) (by decide))
      omega
    omega
  have hhl : h ≤ 48 := by omega
  have HS := Lib.hid hs
  have HST := Lib.hid hst
  have HPOS := Lib.hid hpos
  clear hh hs hst hpos
  go_enter Tryz.func69, Tryz.ntmps69
  go_wp2_with fail
  refine (bitLen_any A _ c l _ rfl (by omega) hl).mono ?_
  rintro e w1 ⟨rfl, rfl⟩
  go_wp2_with fail
  refine (Tryz.bits_Len (h : Int) _ (by omega) (by omega)).mono ?_
  rintro e w1 ⟨rfl, rfl⟩
  rw [Int.toNat_natCast]
  have hb64 : Lib.bitLen h ≤ 64 := by unfold Lib.bitLen; exact bitLen_le 64 h
  have hone : Blk (w.alloc (.cells #[.int .u32 1] 52)) w.heap.size [1] := Blk.new w [1] (by simp)
  obtain ⟨W1, hW1⟩ : ∃ W, W = w.alloc (.cells #[.int .u32 1] 52) := ⟨_, rfl⟩
  have hw1 : Below w.heap.size w W1 := by rw [hW1]; exact ba (b0 _) _
  rw [← hW1] at hone ⊢
  clear hW1
  have HBL := Lib.hid (bitLen_spec h (by omega))
  have HBG := Lib.hid (fun i (hi : i < Lib.bitLen h) => show 2 ^ i ≤ h from by
    rcases Nat.lt_or_ge h (2 ^ i) with h1 | h1
    · have := Lib.bitLen_le h i (by omega) h1; omega
    · exact h1)
  go_wp2_with fail
  go_loopw [4, 5, 6] (fun ov dv iv wr => ∃ (j : Nat) (A1 : Option Addr) (c1 : Nat) (l1 : List Nat), ov = .slice A1 l1.length c1 ∧ dv = .int .i64 ((h / 2 ^ j : Nat) : Int) ∧ iv = .int .i64 ((j : Int) - 1) ∧ l1.length ≤ c1 ∧ OwnS w wr A1 l1 ∧ Top l1 ∧ Hid (Inv (h / 2 ^ j) (val l1)) ∧ j ≤ Lib.bitLen h ∧ Below w.heap.size w wr) (fun _ _ iv _ => (intOf iv + 1).toNat)
  case atStart => exact ⟨Lib.bitLen h, some ⟨w.heap.size, 0, none⟩, 1, [1], rfl, by rw [Nat.div_eq_of_lt HBL.out]; rfl, by go_num, Nat.le_refl _, own_of_blk (Nat.le_refl _) hone, fun _ => by simp [gd], by show Inv _ _; rw [Nat.div_eq_of_lt HBL.out]; simpa [val] using HS.out, Nat.le_refl _, hw1⟩
  case round =>
    obtain ⟨j, A1, c1, l1, rfl, rfl, rfl, hc1, ho1, ht1, hv1, hj, hb1⟩ := hrel
    obtain ⟨hp1, hp2⟩ := HPOS.out _ _ hv1.out
    have hl1 : l1.length ≤ 2 := top_len ht1 hp2
    rcases Nat.eq_zero_or_pos j with rfl | hj0
    · have hv0 : Inv h (val l1) := by have := hv1.out; rwa [Nat.pow_zero, Nat.div_one] at this
      have HV0 := Lib.hid hv0
      have hlen1 : 1 ≤ l1.length := Nat.pos_of_ne_zero (fun h => by have := (val_eq_zero ht1).2 h; omega)
      clear hv0
      go_wp2_with fail
      refine (product_any48 wr wr A1 A1 l1.length c1 l1.length c1 l1 l1 rfl rfl (by omega) (by omega) ho1.ws ho1.ws (b0 _)).mono ?_
      rintro e w2 ⟨A2, c2, l2, rfl, hc2, ho2, ht2, hv2, hb2⟩
      have hl2' : l2.length ≤ 4 := top_len ht2 (by rw [hv2, show (4 : Nat) = 2 + 2 from rfl, BB_add]; exact Nat.mul_lt_mul_of_lt_of_lt hp2 hp2)
      have HV2 := Lib.hid hv2
      clear hv2
      go_wp2_with fail
      refine (compare_any A2 A l2.length c2 l.length c l2 l w2 rfl rfl (by omega) (by omega) ht2 tl ho2.ws (hl.below (bt hb1 hb2))).mono ?_
      rintro e w3 ⟨rfl, hb3⟩
      rw [HV2.out]
      by_cases hgt : val l < val l1 * val l1
      · have hci : (0 : Int) < cmpN (val l1 * val l1) (val l) := by unfold cmpN; rw [if_neg (by omega), if_neg (by omega)]; omega
        have HG := Lib.hid hgt
        clear hgt
        go_wp2_with fail
        obtain ⟨W4, hW4⟩ : ∃ W, W = w3.alloc (.cells #[.int .u32 1] 52) := ⟨_, rfl⟩
        have hone4 : Blk W4 w3.heap.size [1] := by rw [hW4]; exact Blk.new w3 [1] (by simp)
        have h34 : Below w3.heap.size w3 W4 := by rw [hW4]; exact ba (b0 _) _
        rw [← hW4]
        clear hW4
        have hws := hone4.ws (o := 0) (n := 1) (by simp)
        rw [List.drop_zero, show List.take 1 [1] = [1] from rfl] at hws
        refine (difference_any W4 W4 A1 _ l1.length c1 1 1 l1 [1] rfl rfl hlen1 (by omega) (by simp [val]; omega) (ho1.ws.below (bt (bt hb2 hb3) h34)) hws (b0 _)).mono ?_
        rintro e w5 ⟨A5, c5, l5, rfl, hc5, ho5, ht5, hv5, hb5⟩
        have HV5 := Lib.hid hv5
        clear hv5
        go_wp2_with fail
        go_ret
        have hw4 := bt hb1 (bt (bt hb2 hb3) h34)
        exact ⟨val l1, HV0.out, A5, c5, l5, rfl, hc5, ho5.mono hw4.size, ht5, by rw [if_pos HG.out, HV5.out]; simp [val], bt hw4 hb5⟩
      · have hci : ¬ (0 : Int) < cmpN (val l1 * val l1) (val l) := by unfold cmpN; split <;> (try split) <;> omega
        have HG := Lib.hid hgt
        clear hgt
        go_wp2_with fail
        go_ret
        exact ⟨val l1, HV0.out, A1, c1, l1, rfl, hc1, ho1.below (bt hb2 hb3), ht1, by rw [if_neg HG.out], bt hb1 (bt hb2 hb3)⟩
    · obtain ⟨i, rfl⟩ : ∃ i, j = i + 1 := ⟨j - 1, by omega⟩
      have hi0 : (0 : Int) ≤ (i : Int) := by omega
      have hge := HBG.out i (by omega)
      have hstep := HST.out i _ hge hv1.out
      have hinv := HPOS.out _ _ hstep
      obtain ⟨d, hd⟩ : ∃ d, d = h / 2 ^ i := ⟨_, rfl⟩
      obtain ⟨e, he⟩ : ∃ e, e = h / 2 ^ (i + 1) := ⟨_, rfl⟩
      have hed : e = d / 2 := by rw [he, hd, Nat.div_div_eq_div_mul, ← Nat.pow_succ]
      have hd1 : 1 ≤ d := by rw [hd]; exact (Nat.le_div_iff_mul_le (Nat.two_pow_pos i)).2 (by omega)
      have hdh : d ≤ h := by rw [hd]; exact Nat.div_le_self _ _
      have hdi : (h : Int) / 2 ^ i = (d : Int) := by rw [hd]; simp
      rw [← he] at hstep hv1 ⊢
      rw [← hd] at hstep
      obtain ⟨n1, hn1⟩ : ∃ n1, n1 = 2 * h - e - d + 1 := ⟨_, rfl⟩
      obtain ⟨n2, hn2⟩ : ∃ n2, n2 = d - e - 1 := ⟨_, rfl⟩
      have hn1i : 2 * (h : Int) - (e : Int) - (d : Int) + 1 = (n1 : Int) := by omega
      have hn2i : (d : Int) - (e : Int) - 1 = (n2 : Int) := by omega
      unfold rootStep at hstep
      rw [← hn1, ← hn2] at hstep
      have hn1l : n1 ≤ 1000 := by omega
      have hn2l : n2 ≤ 1000 := by omega
      have hehl : e ≤ h := by omega
      have HSTEP := Lib.hid hstep
      have HD := Lib.hid hd
      clear hge hstep hinv he hed hn1 hn2 hd
      go_wp2_with fail
      refine (shiftDown_any wr wr A c l n1 (by omega) (by omega) (hl.below hb1) (b0 _)).mono ?_
      rintro e w2 ⟨A2, c2, l2, rfl, hc2, ho2, ht2, hv2, hb2⟩
      have hl2' : l2.length ≤ 2 := top_len ht2 (by rw [hv2]; exact Nat.lt_of_le_of_lt (Nat.div_le_self _ _) (Nat.lt_of_lt_of_le (val_lt hl.1) (BB_mono hl2)))
      have HV2 := Lib.hid hv2
      clear hv2
      go_wp2_with fail
      refine (divide_small w2 w2 A2 A1 l2.length c2 l1.length c1 l2 l1 rfl rfl hl2' hl1 ho2.ws (ho1.ws.below hb2) (Nat.ne_of_gt hp1) (b0 _)).mono ?_
      rintro e w3 ⟨A3, c3, l3, B3, d3, k3, rfl, hc3, ho3, ht3, hv3, _, _, _, _, hb3⟩
      have HV3 := Lib.hid hv3
      clear hv3
      go_wp2_with fail
      refine (shiftUp_any w3 w3 A1 c1 l1 n2 (by omega) (by omega) (ho1.ws.below (bt hb2 hb3)) (b0 _)).mono ?_
      rintro e w4 ⟨A4, c4, l4, rfl, hc4, ho4, ht4, hv4, hb4⟩
      have hsum : val l4 + val l3 = val l1 * 2 ^ n2 + val l / 2 ^ n1 / val l1 := by rw [hv4, HV3.out, HV2.out]
      have hinv2 := (HPOS.out _ _ HSTEP.out).2
      have hl4 : l4.length ≤ 2 := top_len ht4 (by omega)
      have hl3 : l3.length ≤ 2 := top_len ht3 (by omega)
      have HSUM := Lib.hid hsum
      clear hsum hinv2 hv4
      go_wp2_with fail
      refine (sum_any w4 w4 A4 A3 l4.length c4 l3.length c3 l4 l3 rfl rfl (by omega) (by omega) ho4.ws (ho3.ws.below hb4) (b0 _)).mono ?_
      rintro e w5 ⟨A5, c5, l5, rfl, hc5, ho5, ht5, hv5, hb5⟩
      have HV5 := Lib.hid hv5
      clear hv5
      have hw5 := bt hb1 (bt (bt (bt hb2 hb3) hb4) hb5)
      have hs4 := (bt hb1 (bt (bt hb2 hb3) hb4)).size
      go_wp2_with fail
      go_roundw
      case rel => exact ⟨i, A5, c5, l5, rfl, by rw [HD.out], by go_num, hc5, ho5.mono hs4, ht5, by show Inv _ _; rw [HV5.out, HSUM.out, ← HD.out]; exact HSTEP.out, by omega, hw5⟩
      case measure => simp [intOf]
end Go.Proofs.YtjijifdnhbkjaaaGreatDoor
