/- power and Pow, of small results. -/
import Derived.Test.YtjijifdnhbkjaaaGreatDoorNumMul
import Derived.Test.YtjijifdnhbkjaaaGreatDoorNumInt4
import Derived.Test.YtjijifdnhbkjaaaGreatDoorNumRun
namespace Go.Proofs.YtjijifdnhbkjaaaGreatDoor
open Go.RowKit

theorem bitLenAux_gt : ∀ (f x : Nat), x < 2 ^ f → x < 2 ^ Lib.bitLenAux f x
  | 0, x, h => h
  | f + 1, x, h => by
    unfold Lib.bitLenAux
    split
    · rename_i h0; subst h0; decide
    · have h1 := bitLenAux_gt f (x / 2) (by rw [Nat.pow_succ] at h; omega)
      rw [Nat.pow_add, Nat.pow_one]
      omega
theorem bitLen_spec (n : Nat) (h : n < 2 ^ 64) : n < 2 ^ Lib.bitLen n := bitLenAux_gt 64 n h
theorem i64_and1 (n : Int) : bits .and .i64 n 1 = n % 2 := by
  have h1 : (BitVec.ofInt 64 1).toNat = 2 ^ 1 - 1 := by decide
  have key : (BitVec.ofInt 64 n &&& BitVec.ofInt 64 1).toNat = (n % ((2 ^ 64 : Nat) : Int)).toNat % 2 ^ 1 := by
    rw [BitVec.toNat_and, BitVec.toNat_ofInt, h1, Nat.and_two_pow_sub_one_eq_mod]
  show IntKind.i64.wrap ((BitVec.ofInt 64 n &&& BitVec.ofInt 64 1).toNat : Nat) = n % 2
  rw [key, IntKind.wrap_i64]
  omega
theorem and1_div (n i q : Nat) (hq : q = n / 2 ^ i) : bits .and .i64 ((n : Int) / 2 ^ i) 1 = ((q % 2 : Nat) : Int) := by
  have e : (n : Int) / 2 ^ i = ((q : Nat) : Int) := by rw [hq]; simp
  rw [e, i64_and1]; simp

set_option maxRecDepth 100000 in
set_option maxHeartbeats 1000000 in
theorem power_small (w : World) (A : Option Addr) (c : Nat) (l : List Nat) (n : Nat) (hl2 : l.length ≤ 24) (hn : n < 4294967296) (h0 : 0 < val l) (hfit : val l ^ n < BB 24) (tl : Top l) (hl : WS w A l) :
    Calls Tryz.prog 71 #[.slice A l.length c, .int .i64 (n : Int)] w (Res w (val l ^ n)) := by
  go_enter Tryz.func71, Tryz.ntmps71
  go_wp2_with fail
  refine (Tryz.bits_Len (n : Int) _ (by omega) (by omega)).mono ?_
  rintro e w1 ⟨rfl, rfl⟩
  rw [Int.toNat_natCast]
  have hb64 : Lib.bitLen n ≤ 64 := by unfold Lib.bitLen; exact bitLen_le 64 n
  have hone : Blk (w.alloc (.cells #[.int .u32 1] 52)) w.heap.size [1] := Blk.new w [1] (by simp)
  obtain ⟨W1, hW1⟩ : ∃ W, W = w.alloc (.cells #[.int .u32 1] 52) := ⟨_, rfl⟩
  have hw1 : Below w.heap.size w W1 := by rw [hW1]; exact ba (b0 _) _
  rw [← hW1] at hone ⊢
  clear hW1
  have hlt := hl.lt
  have HF := Lib.hid hfit
  have HBL := Lib.hid (bitLen_spec n (by omega))
  clear hfit
  go_wp2_with fail
  go_loopw [5, 6] (fun ov iv wr => ∃ (j : Nat) (A1 : Option Addr) (c1 : Nat) (l1 : List Nat), ov = .slice A1 l1.length c1 ∧ iv = .int .i64 ((j : Int) - 1) ∧ l1.length ≤ c1 ∧ OwnS w wr A1 l1 ∧ Top l1 ∧ Hid (val l1 = val l ^ (n / 2 ^ j)) ∧ j ≤ 64 ∧ Below w.heap.size w wr) (fun _ iv _ => (intOf iv + 1).toNat)
  case atStart => exact ⟨Lib.bitLen n, some ⟨w.heap.size, 0, none⟩, 1, [1], rfl, by go_num, Nat.le_refl _, own_of_blk (Nat.le_refl _) hone, fun _ => by simp [gd], by show _ = _; rw [Nat.div_eq_of_lt HBL.out]; simp [val], hb64, hw1⟩
  case round =>
    obtain ⟨j, A1, c1, l1, rfl, rfl, hc1, ho1, ht1, hv1, hj, hb1⟩ := hrel
    rcases Nat.eq_zero_or_pos j with rfl | hj0
    · go_wp2_with fail
      go_ret
      exact ⟨A1, c1, l1, rfl, hc1, ho1, ht1, by rw [hv1.out]; simp, hb1⟩
    · obtain ⟨i, rfl⟩ : ∃ i, j = i + 1 := ⟨j - 1, by omega⟩
      have hi0 : (0 : Int) ≤ (i : Int) := by omega
      have hdm : n / 2 ^ i = 2 * (n / 2 ^ (i + 1)) + (n / 2 ^ i) % 2 := by
        have e := Nat.div_add_mod (n / 2 ^ i) 2
        rw [show n / 2 ^ (i + 1) = n / 2 ^ i / 2 from by rw [Nat.div_div_eq_div_mul, ← Nat.pow_succ]]
        omega
      have hle1 : n / 2 ^ i ≤ n := Nat.div_le_self _ _
      have hpow : ∀ m, m ≤ n → val l ^ m < BB 24 := fun m hm => Nat.lt_of_le_of_lt (Nat.pow_le_pow_right h0 hm) HF.out
      have hl1 : l1.length ≤ 24 := top_len ht1 (by rw [hv1.out]; exact hpow _ (by omega))
      have HP := Lib.hid hpow
      have HD := Lib.hid hdm
      clear hpow hdm
      go_wp2_with fail
      refine (product_any48 w wr A1 A1 l1.length c1 l1.length c1 l1 l1 rfl rfl (by omega) (by omega) ho1.ws ho1.ws hb1).mono ?_
      rintro e w2 ⟨A2, c2, l2, rfl, hc2, ho2, ht2, hv2, hb2⟩
      have hv2' : val l2 = val l ^ (2 * (n / 2 ^ (i + 1))) := by rw [hv2, hv1.out, ← Nat.pow_add]; congr 1; omega
      have HV2 := Lib.hid hv2'
      have hl2' : l2.length ≤ 24 := top_len ht2 (by rw [hv2']; exact HP.out _ (by have := HD.out; omega))
      clear hv2 hv2'
      obtain ⟨q, hq⟩ : ∃ q, q = n / 2 ^ i := ⟨_, rfl⟩
      rw [← hq] at HD hle1
      have hand := and1_div n i q hq
      have HQ := Lib.hid hq
      clear hq
      rcases Nat.mod_two_eq_zero_or_one q with hq2 | hq2
      · rw [hq2] at hand
        have HQ2 := Lib.hid hq2
        clear hq2
        go_wp2_with fail
        go_roundw
        case rel => exact ⟨i, A2, c2, l2, rfl, by go_num, hc2, ho2, ht2, by show _ = _; rw [HV2.out, ← HQ.out]; congr 1; have := HD.out; have := HQ2.out; omega, by omega, hb2⟩
        case measure => simp [intOf]
      · rw [hq2] at hand
        have HQ2 := Lib.hid hq2
        clear hq2
        go_wp2_with fail
        refine (product_any48 w w2 A2 A l2.length c2 l.length c l2 l rfl rfl (by omega) (by omega) ho2.ws (hl.below hb2) hb2).mono ?_
        rintro e w3 ⟨A3, c3, l3, rfl, hc3, ho3, ht3, hv3, hb3⟩
        have HV3 := Lib.hid hv3
        clear hv3
        go_wp2_with fail
        go_roundw
        case rel => exact ⟨i, A3, c3, l3, rfl, by go_num, hc3, ho3, ht3, by show _ = _; rw [HV3.out, HV2.out, ← Nat.pow_succ, ← HQ.out]; congr 1; have := HD.out; have := HQ2.out; omega, by omega, hb3⟩
        case measure => simp [intOf]
end Go.Proofs.YtjijifdnhbkjaaaGreatDoor
