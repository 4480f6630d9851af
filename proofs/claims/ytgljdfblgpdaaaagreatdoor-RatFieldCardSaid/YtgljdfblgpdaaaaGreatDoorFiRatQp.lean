import Derived.Test.YtgljdfblgpdaaaaGreatDoorFiRatQ
import Derived.Test.YtgljdfblgpdaaaaGreatDoorFiRefY
set_option linter.unusedSimpArgs false
set_option linter.unusedVariables false
set_option maxRecDepth 100000
set_option maxHeartbeats 4000000
namespace Go.Proofs.YtgljdfblgpdaaaaGreatDoor
open Go.RowKit Go.Shelf
variable {e i : Nat} {l : List Nat} {w : World} {z : Int}
theorem BB_pow (i e : Nat) : BB i ^ e = BB (i * e) := by rw [BB_two, BB_two, ← Nat.pow_mul, Nat.mul_assoc]
theorem lt_powz (h : Lt i z) : Lt (i * e + 1) (z ^ e) := by
 unfold Lt at *
 rw [Int.natAbs_pow]
 refine Nat.lt_of_le_of_lt (Nat.pow_le_pow_left (Nat.le_of_lt h) e) ?_
 rw [BB_pow, BB_two, BB_two]
 exact Nat.pow_lt_pow_right (by decide) (by omega)
theorem bl_words (hw : ∀ x ∈ l, x < 4294967296) (ht : Top l) : bl l ≤ 32 * l.length := by
 rcases Nat.eq_zero_or_pos l.length with h0 | h0
 ·unfold bl; rw [if_pos h0]; omega
 ·exact (bl_bound hw ht h0).2.2.1
theorem fit_words (hw : ∀ x ∈ l, x < 4294967296) (ht : Top l) (hl : l.length ≤ i) (he : e ≤ 64) (hie : i * e ≤ 600) : Fit l e := by
 have hb := bl_words hw ht
 refine ⟨by omega, fun j hj => ?_, fun hl => ?_⟩
 ·have h1 : val l ≤ BB i := Nat.le_of_lt (Nat.lt_of_lt_of_le (val_lt hw) (BB_mono hl))
  rcases Nat.eq_zero_or_pos j with h0 | h0
  ·subst h0; rw [Nat.pow_zero]; exact Nat.lt_of_lt_of_le (show 1 < BB 1 by unfold BB; decide) (BB_mono (by decide))
  ·have h2 : val l ^ j < BB i ^ j := Nat.pow_lt_pow_left (Nat.lt_of_lt_of_le (val_lt hw) (BB_mono hl)) (by omega)
   rw [BB_pow] at h2
   exact Nat.lt_of_lt_of_le h2 (BB_mono (Nat.le_trans (Nat.mul_le_mul_left i hj) hie))
 ·have h3 : e ≤ 1048576 / bl l := by
   rw [Nat.le_div_iff_mul_le (by omega)]
   have h4 : e * bl l ≤ e * (32 * i) := Nat.mul_le_mul_left e (by omega)
   have h5 : e * (32 * i) = 32 * (i * e) := by rw [Nat.mul_left_comm, Nat.mul_comm e i]
   omega
  omega
theorem npow_one (n : Nat) : (1 : Rat) ^ n = 1 := by
 induction n with
 | zero => exact Rat.pow_zero 1
 | succ n ih => rw [Rat.pow_succ, ih]; exact Rat.mul_one 1
theorem zpow_one' (z : Int) : (1 : Rat) ^ z = 1 := by
 obtain ⟨a, rfl | rfl⟩ := z.eq_nat_or_neg
 ·rw [Rat.zpow_natCast, npow_one]
 ·rw [Rat.zpow_neg, Rat.zpow_natCast, npow_one]; exact Rat.inv_eq_of_mul_eq_one (Rat.mul_one 1)
theorem zpow_neg_one (z : Int) : (-1 : Rat) ^ z = if z % 2 = 0 then 1 else -1 := by
 have h1 : (-1 : Rat) ≠ 0 := by decide
 have h2 : (-1 : Rat) ^ (2 : Int) = 1 := by rw [show (2 : Int) = ((2 : Nat) : Int) from rfl, Rat.zpow_natCast]; decide +kernel
 have h3 := Int.mul_ediv_add_emod z 2
 rcases Int.emod_two_eq z with h | h
 ·rw [if_pos h]
  rw [show z = 2 * (z / 2) by omega, zpow_mul', h2, zpow_one']
 ·rw [if_neg (by omega)]
  rw [show z = 2 * (z / 2) + 1 by omega, Rat.zpow_add h1, zpow_mul', h2, zpow_one', Rat.zpow_one, Rat.one_mul]
theorem unit_rat {q : Rat} (h1 : q.num.natAbs ≤ 1) (h2 : q.den ≤ 1) (h0 : q ≠ 0) : q = 1 ∨ q = -1 := by
 have h3 : q.num ≠ 0 := fun h => h0 (Rat.num_eq_zero.1 h)
 have h4 := q.den_nz
 have h5 : q.num = 1 ∨ q.num = -1 := by omega
 rcases h5 with h5 | h5
 ·exact .inl (Rat.ext h5 (by show q.den = 1; omega))
 ·exact .inr (Rat.ext h5 (by show q.den = 1; omega))
theorem inv_pow_pos {q : Rat} (h : 0 < q.num) (e : Nat) : (q ^ (-(e : Int))).num = (q.den : Int) ^ e ∧ ((q ^ (-(e : Int))).den : Int) = q.num ^ e := by
 rw [Rat.zpow_neg, Rat.zpow_natCast, ← inv_npow, Rat.num_pow, Rat.den_pow, Rat.num_inv, Rat.den_inv, Int.sign_eq_one_of_pos h, if_neg (by omega)]
 refine ⟨by rw [Int.one_mul], ?_⟩
 rw [Int.natCast_pow, show ((q.num.natAbs : Nat) : Int) = q.num by omega]
theorem inv_pow_neg {q : Rat} (h : q.num < 0) (e : Nat) : (q ^ (-(e : Int))).num = (-(q.den : Int)) ^ e ∧ ((q ^ (-(e : Int))).den : Int) = (-q.num) ^ e := by
 rw [Rat.zpow_neg, Rat.zpow_natCast, ← inv_npow, Rat.num_pow, Rat.den_pow, Rat.num_inv, Rat.den_inv, Int.sign_eq_neg_one_of_neg h, if_neg (by omega)]
 refine ⟨by rw [Int.neg_one_mul], ?_⟩
 rw [Int.natCast_pow, show ((q.num.natAbs : Nat) : Int) = -q.num by omega]
theorem lt_mone : Lt 1 (-1) := lt_one (by decide)
theorem QPow_q {a : QW} {q : Rat} (h : QV i w a q) (hq : q ≠ 0) (hz : z.natAbs ≤ 64) (hi : i * z.natAbs ≤ 600) (hi2 : i ≤ 120) :
  Calls Tryz.prog 55 #[.agg #[.bool a.n, .slice a.A a.l.length a.c, .bool a.m, .slice a.B a.k.length a.d], .int .i64 z] w (RQX (i * z.natAbs + 1) w (q ^ z) 0) := by
 have hx : q.num ≠ 0 := fun h => hq (Rat.num_eq_zero.1 h)
 have I1 := h.i1 hi2
 have I2 := h.i2 hi2
 have T1 := isB_top h.num.can
 have T2 := isB_top h.den.can
 have W1 := h.num.ws.1
 have W2 := h.den.ws.1
 by_cases hz0 : z = 0
 ·subst hz0
  exact (QPow_n0 I1 I2).mono fun e w' hr => hr.toQ (by rw [Rat.zpow_zero]; rfl) (by rw [Rat.zpow_zero]; rfl) (lt_le (lt_one (by decide)) (by omega)) (lt_le (lt_one (by decide)) (by omega))
 ·have hn : z ≠ 0 ∧ -9223372036854775808 ≤ z ∧ z ≤ 9223372036854775807 := ⟨hz0, by omega, by omega⟩
  obtain ⟨e, he⟩ : ∃ e, e = z.natAbs := ⟨_, rfl⟩
  rw [← he] at hz hi ⊢
  have f1 := fit_words W1 T1 h.num.len hz hi
  have f2 := fit_words W2 T2 h.den.len hz hi
  have p1 : Lt (i * e + 1) (q.num ^ e) := lt_powz h.num.lt
  have p2 : Lt (i * e + 1) ((q.den : Int) ^ e) := lt_powz h.den.lt
  have p3 : Lt (i * e + 1) ((-q.num) ^ e) := lt_powz (lt_neg h.num.lt)
  have p4 : Lt (i * e + 1) ((-(q.den : Int)) ^ e) := lt_powz (lt_neg h.den.lt)
  by_cases hk : max (bl a.l) (bl a.k) ≤ 1
  ·have v1 := bl_small W1 T1 (by omega)
   have v2 := bl_small W2 T2 (by omega)
   rw [val_abs h.num.val] at v1
   rw [val_abs h.den.val] at v2
   have F : ∀ e, e ≤ 1 → Fit a.l e ∧ Fit a.k e := fun t ht => ⟨fit_words W1 T1 h.num.len (by omega) (by have : i * t ≤ i * 1 := Nat.mul_le_mul_left i ht; omega), fit_words W2 T2 h.den.len (by omega) (by have : i * t ≤ i * 1 := Nat.mul_le_mul_left i ht; omega)⟩
   have L1 : Lt (i * e + 1) 1 := lt_le (lt_one (by decide)) (by omega)
   have L2 : Lt (i * e + 1) (-1) := lt_le lt_mone (by omega)
   have ht : z.tmod 2 = 0 ∨ z.tmod 2 = 1 ∨ z.tmod 2 = -1 := by
    rcases Int.lt_or_le z 0 with h0 | h0
    ·have := Int.tmod_two_eq z; omega
    ·have := Int.tmod_two_eq z; omega
   have hp := zpow_neg_one z
   have htd := Int.mul_tdiv_add_tmod z 2
   rcases unit_rat v1 (by omega) hq with hu | hu
   ·subst hu
    have e1 : ((1 : Rat) ^ z).num = 1 ∧ (((1 : Rat) ^ z).den : Int) = 1 := by rw [zpow_one']; exact ⟨rfl, rfl⟩
    rcases ht with ht | ht | ht
    ·exact (QPow_one I1 I2 hx hn hk (F 0 (by decide)).1 (F 0 (by decide)).2 ht).mono fun e w' hr => hr.toQ e1.1 e1.2 L1 L1
    ·exact (QPow_one I1 I2 hx hn hk (F 1 (by decide)).1 (F 1 (by decide)).2 ht).mono fun e w' hr => hr.toQ e1.1 e1.2 L1 L1
    ·exact (QPow_onep I1 I2 hx hn hk (F 1 (by decide)).1 (F 1 (by decide)).2 ht (by decide) (by decide)).mono fun e w' hr => hr.toQ e1.1 e1.2 L1 L1
   ·subst hu
    rcases ht with ht | ht | ht
    ·rw [if_pos (by omega)] at hp
     have e1 : ((-1 : Rat) ^ z).num = 1 ∧ (((-1 : Rat) ^ z).den : Int) = 1 := by rw [hp]; exact ⟨rfl, rfl⟩
     exact (QPow_one I1 I2 hx hn hk (F 0 (by decide)).1 (F 0 (by decide)).2 ht).mono fun e w' hr => hr.toQ e1.1 e1.2 L1 L1
    ·rw [if_neg (by omega)] at hp
     have e1 : ((-1 : Rat) ^ z).num = -1 ∧ (((-1 : Rat) ^ z).den : Int) = 1 := by rw [hp]; exact ⟨rfl, rfl⟩
     exact (QPow_one I1 I2 hx hn hk (F 1 (by decide)).1 (F 1 (by decide)).2 ht).mono fun e w' hr => hr.toQ e1.1 e1.2 L2 L1
    ·rw [if_neg (by omega)] at hp
     have e1 : ((-1 : Rat) ^ z).num = -1 ∧ (((-1 : Rat) ^ z).den : Int) = 1 := by rw [hp]; exact ⟨rfl, rfl⟩
     exact (QPow_onen I1 I2 hx hn hk (F 1 (by decide)).1 (F 1 (by decide)).2 ht (by decide) (by decide)).mono fun e w' hr => hr.toQ e1.1 e1.2 L2 L1
  ·have hlim : z ≤ (1048576 / max (bl a.l) (bl a.k) : Nat) ∧ -((1048576 / max (bl a.l) (bl a.k) : Nat) : Int) ≤ z := by
    have b1 := bl_words W1 T1
    have b2 := bl_words W2 T2
    have b3 := h.num.len
    have b4 := h.den.len
    have h1 : e ≤ 1048576 / max (bl a.l) (bl a.k) := by
     rw [Nat.le_div_iff_mul_le (by omega)]
     have h4 : e * max (bl a.l) (bl a.k) ≤ e * (32 * i) := Nat.mul_le_mul_left e (by omega)
     have h5 : e * (32 * i) = 32 * (i * e) := by rw [Nat.mul_left_comm, Nat.mul_comm e i]
     omega
    omega
   rcases Int.lt_trichotomy z 0 with hs | hs | hs
   ·have hze : z = -(e : Int) := by omega
    rcases Int.lt_trichotomy q.num 0 with hx1 | hx1 | hx1
    ·have r := inv_pow_neg hx1 e
     rw [← hze] at r
     exact (QPow_bign I1 I2 hx hn (by omega) f1 f2 hlim hze hx1).mono fun e w' hr => hr.toQ r.1 r.2 p4 p3
    ·exact absurd hx1 hx
    ·have r := inv_pow_pos hx1 e
     rw [← hze] at r
     exact (QPow_bigp I1 I2 hx hn (by omega) f1 f2 hlim hze hx1).mono fun e w' hr => hr.toQ r.1 r.2 p2 p1
   ·exact absurd hs hz0
   ·have hze : z = (e : Int) := by omega
    exact (QPow_big I1 I2 hx hn (by omega) f1 f2 hlim hze).mono fun e w' hr => hr.toQ (by rw [hze, Rat.zpow_natCast, Rat.num_pow]) (by rw [hze, Rat.zpow_natCast, Rat.den_pow, Int.natCast_pow]) p1 p2
theorem RQX.mono {M N : Nat} {q : Rat} {er : Int} {e : Ending} {w' : World} (h : RQX M w q er e w') (hM : M ≤ N) : RQX N w q er e w' := by
 obtain ⟨a, he, hq, hb⟩ := h
 exact ⟨a, he, hq.mono hM, hb⟩
theorem QPow_m (N : Nat) {a : QW} {q : Rat} (h : QV i w a q) (hq : q ≠ 0) (hz : z.natAbs ≤ N) (hN : N ≤ 64) (hi : i * N ≤ 600) (hi2 : i ≤ 120) :
  Calls Tryz.prog 55 #[.agg #[.bool a.n, .slice a.A a.l.length a.c, .bool a.m, .slice a.B a.k.length a.d], .int .i64 z] w (RQX (i * N + 1) w (q ^ z) 0) := by
 have h1 : i * z.natAbs ≤ i * N := Nat.mul_le_mul_left i hz
 exact (QPow_q h hq (by omega) (by omega) hi2).mono fun e w' hr => hr.mono (by omega)
end Go.Proofs.YtgljdfblgpdaaaaGreatDoor
