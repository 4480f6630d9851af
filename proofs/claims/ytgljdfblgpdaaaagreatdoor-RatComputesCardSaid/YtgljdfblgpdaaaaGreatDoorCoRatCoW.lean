import Derived.Test.YtgljdfblgpdaaaaGreatDoorPbRefI
import Derived.Test.YtgljdfblgpdaaaaGreatDoorPbSanA
import Derived.Test.YtgljdfblgpdaaaaGreatDoorCoRefZ
set_option linter.unusedSimpArgs false
set_option linter.unusedVariables false
set_option maxRecDepth 100000
set_option maxHeartbeats 4000000
namespace Go.Proofs.YtgljdfblgpdaaaaGreatDoor
open Go Go.RowKit
section
variable {P : Program} {ops : Array Oper} {Q : Exit → Act → World → Prop} {md : Region.Mode} {S : World → Prop}
end
section
variable {P : Program} {Q : Exit → Act → World → Prop} {S : World → Prop}
theorem gA01 {P R : Prop} (hR : R) (h : R → P := by (intro hr_; obtain ⟨e00_, e01_, e02_, e03_⟩ := (x0.below hb).cs; rw [hw] at e00_ e01_ e02_ e03_; obtain ⟨e10_, e11_, e12_, e13_⟩ := (x1.below hb).cs; rw [hw] at e10_ e11_ e12_ e13_; go_wp2_with fail; rw [← hw]; exact gend hr_)) : P := h hR
theorem gA01q {P R : Prop} (hR : R) (h : R → P := by (intro hr_; obtain ⟨e00_, e01_, e02_, e03_⟩ := (x0.below hb).cs; rw [hw] at e00_ e01_ e02_ e03_; obtain ⟨e10_, e11_, e12_, e13_⟩ := (x1.below hb).cs; rw [hw] at e10_ e11_ e12_ e13_; obtain ⟨e20_, e21_, e22_, e23_⟩ := (xq.below hb).cs; rw [hw] at e20_ e21_ e22_ e23_; go_wp2_with fail; rw [← hw]; exact gend hr_)) : P := h hR
theorem gA01qs {P R : Prop} (hR : R) (h : R → P := by (intro hr_; obtain ⟨e00_, e01_, e02_, e03_⟩ := (x0.below hb).cs; rw [hw] at e00_ e01_ e02_ e03_; obtain ⟨e10_, e11_, e12_, e13_⟩ := (x1.below hb).cs; rw [hw] at e10_ e11_ e12_ e13_; obtain ⟨e20_, e21_, e22_, e23_⟩ := (xq.below hb).cs; rw [hw] at e20_ e21_ e22_ e23_; obtain ⟨e30_, e31_, e32_, e33_⟩ := (xs.below hb).cs; rw [hw] at e30_ e31_ e32_ e33_; go_wp2_with fail; rw [← hw]; exact gend hr_)) : P := h hR
theorem gA01qsp {P R : Prop} (hR : R) (h : R → P := by (intro hr_; obtain ⟨e00_, e01_, e02_, e03_⟩ := (x0.below hb).cs; rw [hw] at e00_ e01_ e02_ e03_; obtain ⟨e10_, e11_, e12_, e13_⟩ := (x1.below hb).cs; rw [hw] at e10_ e11_ e12_ e13_; obtain ⟨e20_, e21_, e22_, e23_⟩ := (xq.below hb).cs; rw [hw] at e20_ e21_ e22_ e23_; obtain ⟨e30_, e31_, e32_, e33_⟩ := (xs.below hb).cs; rw [hw] at e30_ e31_ e32_ e33_; obtain ⟨e40_, e41_, e42_, e43_⟩ := (xp.below hb).cs; rw [hw] at e40_ e41_ e42_ e43_; go_wp2_with fail; rw [← hw]; exact gend hr_)) : P := h hR
end
open Go.RowKit Go.Shelf
attribute [local go_sem] Oper.semAt_some
open Go.RowKit Go.Shelf
attribute [local go_sem] Oper.semAt_some
open Go.RowKit Go.Shelf
attribute [local go_sem] Oper.semAt_some
open Go.RowKit Go.Shelf
variable {A B : Option Addr} {W w : World} {c d e kb : Nat} {k l : List Nat} {m n : Bool} {x y z : Int}
theorem rqe_of {M : Nat} {p q er : Int} {e : Ending} {w' : World} (h : RQJ M w p q er e w') (hp : Lt 300 p) (hq : Lt 300 q) : RQE w p q er e w' := by
 obtain ⟨n, A, c, l, m, B, d, k, he, h1, h2, hb⟩ := h
 exact ⟨n, A, c, l, m, B, d, k, he, h1.iv hp, h2.iv hq, hb⟩
theorem pow_bits (hw : ∀ x ∈ l, x < 4294967296) (ht : Top l) (hk : bl l ≤ kb) (he : kb * e ≤ 3000) {j : Nat} (hj : j ≤ e) : val l ^ j < BB 200 := by
 have h1 := bl_lt hw ht
 have h2 : val l ^ j ≤ (2 ^ bl l) ^ j := Nat.pow_le_pow_left (Nat.le_of_lt h1) j
 rw [← Nat.pow_mul] at h2
 have h3 : bl l * j ≤ 3000 := Nat.le_trans (Nat.mul_le_mul hk hj) he
 obtain ⟨t, ht, hB⟩ : ∃ t, 3000 < t ∧ BB 200 = 2 ^ t := ⟨32 * 200, by decide, BB_two 200⟩
 rw [hB]
 exact Nat.lt_of_le_of_lt h2 (Nat.pow_lt_pow_right (by decide) (by omega))
theorem pow_lt (h : IV W n A c l z) (hk : bl l ≤ kb) (he : kb * e ≤ 3000) : Lt 300 (z ^ e) := by
 have h1 := pow_bits h.ws.1 (isB_top h.can) hk he (Nat.le_refl e)
 rw [val_abs h.val] at h1
 unfold Lt
 rw [Int.natAbs_pow]
 exact Nat.lt_of_lt_of_le h1 (BB_mono (by decide))
theorem exp_le (hk : 0 < kb) (he : e ≤ 3000 / kb) : kb * e ≤ 3000 :=
 Nat.le_trans (Nat.mul_le_mul_left kb he) (Nat.mul_div_le 3000 kb)
theorem exp_lim {b kb e : Nat} (hb : b ≤ kb) (he : kb * e ≤ 3000) (h1 : 1 < b) : e ≤ 1048576 / b := by
 rw [Nat.le_div_iff_mul_le (by omega), Nat.mul_comm]
 exact Nat.le_trans (Nat.mul_le_mul_right e hb) (by omega)
theorem bl_one (hw : ∀ x ∈ l, x < 4294967296) (ht : Top l) (h : val l ≤ 1) : bl l ≤ 1 := by
 rcases Nat.eq_zero_or_pos l.length with h0 | h0
 ·unfold bl; rw [if_pos h0]; omega
 ·have h1 := (bl_bound hw ht h0).2.1
  rcases Nat.lt_or_ge 1 (bl l) with h2 | h2
  ·have h3 : 2 ^ 1 ≤ 2 ^ (bl l - 1) := Nat.pow_le_pow_right (by decide) (by omega)
   omega
  ·exact h2
theorem fit_of (h : IV W n A c l z) (hk : bl l ≤ kb) (he : kb * e ≤ 3000) (hb : e < 9223372036854775808) : Fit l e :=
 ⟨hb, fun j hj => Nat.lt_of_lt_of_le (pow_bits h.ws.1 (isB_top h.can) hk he hj) (BB_mono (by decide)), fun hl => by have := exp_lim hk he hl.1; omega⟩
def Pows (w : World) (n m : Bool) (A B : Option Addr) (c d : Nat) (l k : List Nat) (z : Int) : Prop := ∃ P Q er,
  (∀ W, Below w.heap.size w W → Calls Tryz.prog 55 #[.agg #[.bool n, .slice A l.length c, .bool m, .slice B k.length d], .int .i64 z] W (RQE W P Q er)) ∧
  ∀ W, Below w.heap.size w W → Calls Tryz.prog 56 #[.agg #[.bool n, .slice A l.length c, .bool m, .slice B k.length d], .int .i64 z] W (RQE W P Q er)
theorem pows_lim (h : IV w n A c l x) (h2 : IV w m B d k y) (hx : x ≠ 0) (hn : z ≠ 0 ∧ -9223372036854775808 ≤ z ∧ z ≤ 9223372036854775807) (hk : 1 < max (bl l) (bl k)) (hlim : (1048576 / max (bl l) (bl k) : Nat) < z ∨ z < -((1048576 / max (bl l) (bl k) : Nat) : Int)) : Pows w n m A B c d l k z :=
 ⟨_, _, _, fun W hb => QPow_lim (h.below hb) (h2.below hb) hx hn hk hlim, fun W hb => RQPow_lim (h.below hb) (h2.below hb) hx hn.2 hk hlim⟩
theorem pows_big (h : IV w n A c l x) (h2 : IV w m B d k y) (hc : Can x y) (hx : x ≠ 0) (hn : z ≠ 0 ∧ -9223372036854775808 ≤ z ∧ z ≤ 9223372036854775807) (hk : 1 < max (bl l) (bl k)) (hs : z.natAbs ≤ 3000 / max (bl l) (bl k)) : Pows w n m A B c d l k z := by
 obtain ⟨kb, hkb⟩ : ∃ kb, kb = max (bl l) (bl k) := ⟨_, rfl⟩
 have k1 : bl l ≤ kb := by omega
 have k2 : bl k ≤ kb := by omega
 have hlim : z ≤ (1048576 / max (bl l) (bl k) : Nat) ∧ -((1048576 / max (bl l) (bl k) : Nat) : Int) ≤ z := by
  have h1 : 3000 / max (bl l) (bl k) ≤ 1048576 / max (bl l) (bl k) := Nat.div_le_div_right (by decide)
  omega
 rw [← hkb] at hs
 obtain ⟨e, he⟩ : ∃ e, e = z.natAbs := ⟨_, rfl⟩
 rw [← he] at hs
 have hE := exp_le (by omega : 0 < kb) hs
 have he3 : e ≤ 3000 := Nat.le_trans hs (Nat.div_le_self _ _)
 have f1 := fit_of h k1 hE (by omega)
 have f2 := fit_of h2 k2 hE (by omega)
 have g1 : (1 < bl l → e ≤ 1048576 / bl l) ∧ ∀ m, m ≤ e → val l ^ m < BB 200 := ⟨exp_lim k1 hE, fun j hj => pow_bits h.ws.1 (isB_top h.can) k1 hE hj⟩
 have g2 : (1 < bl k → e ≤ 1048576 / bl k) ∧ ∀ m, m ≤ e → val k ^ m < BB 200 := ⟨exp_lim k2 hE, fun j hj => pow_bits h2.ws.1 (isB_top h2.can) k2 hE hj⟩
 have p1 := pow_lt h k1 hE
 have p2 := pow_lt h2 k2 hE
 have hy : y ≠ 0 := by have := hc.1; omega
 rcases Int.lt_trichotomy z 0 with hz | hz | hz
 ·have hze : z = -(e : Int) := by omega
  rcases Int.lt_trichotomy x 0 with hx1 | hx1 | hx1
  ·have q := f_eq (can_pow (can_inv_neg hc hx1) e) (p' := y ^ e) (q' := x ^ e) (Int.pow_ne_zero hx) (by rw [← Int.mul_pow, ← Int.mul_pow, Int.neg_mul, Int.mul_neg])
   have p3 : Lt 300 ((-y) ^ e) := by unfold Lt at p2 ⊢; rw [Int.natAbs_pow, Int.natAbs_neg, ← Int.natAbs_pow]; exact p2
   have p4 : Lt 300 ((-x) ^ e) := by unfold Lt at p1 ⊢; rw [Int.natAbs_pow, Int.natAbs_neg, ← Int.natAbs_pow]; exact p1
   refine ⟨(-y) ^ e, (-x) ^ e, 0, fun W hb => (QPow_bign (h.below hb) (h2.below hb) hx hn hk f1 f2 hlim hze hx1).mono fun e w' hr => rqe_of hr p3 p4, fun W hb => ?_⟩
   have r := RQPow_bign (h.below hb) (h2.below hb) hx hn.2 hk hlim g1 g2 hze (by omega)
   rwa [← q.1, ← q.2] at r
  ·exact absurd hx1 hx
  ·have q := f_can (can_pow (can_inv hc hx1) e)
   refine ⟨y ^ e, x ^ e, 0, fun W hb => (QPow_bigp (h.below hb) (h2.below hb) hx hn hk f1 f2 hlim hze hx1).mono fun e w' hr => rqe_of hr p2 p1, fun W hb => ?_⟩
   have r := RQPow_bign (h.below hb) (h2.below hb) hx hn.2 hk hlim g1 g2 hze (by omega)
   rwa [q.1, q.2] at r
 ·exact absurd hz hn.1
 ·have hze : z = (e : Int) := by omega
  have q := f_can (can_pow hc e)
  refine ⟨x ^ e, y ^ e, 0, fun W hb => (QPow_big (h.below hb) (h2.below hb) hx hn hk f1 f2 hlim hze).mono fun e w' hr => rqe_of hr p1 p2, fun W hb => ?_⟩
  have r := RQPow_bigp (h.below hb) (h2.below hb) hx hn.2 hk hlim g1 g2 hze hy
  rwa [q.1, q.2] at r
theorem pows_one (h : IV w n A c l x) (h2 : IV w m B d k y) (hc : Can x y) (hx : x ≠ 0) (hn : z ≠ 0 ∧ -9223372036854775808 ≤ z ∧ z ≤ 9223372036854775807) (hk : max (bl l) (bl k) ≤ 1) : Pows w n m A B c d l k z := by
 have v1 := bl_small h.ws.1 (isB_top h.can) (by omega)
 have v2 := bl_small h2.ws.1 (isB_top h2.can) (by omega)
 rw [val_abs h.val] at v1
 rw [val_abs h2.val] at v2
 have hy : y = 1 := by have := hc.1; omega
 subst hy
 have F : ∀ e, e ≤ 1 → Fit l e ∧ Fit k e := fun e he => ⟨fit_of h (kb := 1) (by omega) (by omega) (by omega), fit_of h2 (kb := 1) (by omega) (by omega) (by omega)⟩
 have L1 : Lt 300 1 := lt_le (lt_one (by decide)) (by decide)
 have L2 : Lt 300 (-1) := lt_le (lt_one (by decide)) (by decide)
 have ht : z.tmod 2 = 0 ∨ z.tmod 2 = 1 ∨ z.tmod 2 = -1 := by
  rcases Int.lt_or_le z 0 with h0 | h0
  ·have := Int.tmod_two_eq z; omega
  ·have := Int.tmod_two_eq z; omega
 rcases Int.lt_trichotomy x 0 with hx1 | hx1 | hx1
 ·have e1 : x = -1 := by omega
  subst e1
  rcases ht with ht | ht | ht
  ·refine ⟨1, 1, 0, fun W hb => (QPow_one (h.below hb) (h2.below hb) hx hn hk (F 0 (by decide)).1 (F 0 (by decide)).2 ht).mono fun e w' hr => rqe_of hr L1 L1, fun W hb => RQPow_sC (h.below hb) (h2.below hb) hx1 hk ht⟩
  ·refine ⟨-1, 1, 0, fun W hb => (QPow_one (h.below hb) (h2.below hb) hx hn hk (F 1 (by decide)).1 (F 1 (by decide)).2 ht).mono fun e w' hr => rqe_of hr L2 L1, fun W hb => RQPow_sA (h.below hb) (h2.below hb) hx1 hk (by omega)⟩
  ·refine ⟨-1, 1, 0, fun W hb => (QPow_onen (h.below hb) (h2.below hb) hx hn hk (F 1 (by decide)).1 (F 1 (by decide)).2 ht hx1 (by decide)).mono fun e w' hr => rqe_of hr L2 L1, fun W hb => RQPow_sA (h.below hb) (h2.below hb) hx1 hk (by omega)⟩
 ·exact absurd hx1 hx
 ·have e1 : x = 1 := by omega
  subst e1
  rcases ht with ht | ht | ht
  ·refine ⟨1, 1, 0, fun W hb => (QPow_one (h.below hb) (h2.below hb) hx hn hk (F 0 (by decide)).1 (F 0 (by decide)).2 ht).mono fun e w' hr => rqe_of hr L1 L1, fun W hb => RQPow_sE (h.below hb) (h2.below hb) hx1 hk⟩
  ·refine ⟨1, 1, 0, fun W hb => (QPow_one (h.below hb) (h2.below hb) hx hn hk (F 1 (by decide)).1 (F 1 (by decide)).2 ht).mono fun e w' hr => rqe_of hr L1 L1, fun W hb => RQPow_sE (h.below hb) (h2.below hb) hx1 hk⟩
  ·refine ⟨1, 1, 0, fun W hb => (QPow_onep (h.below hb) (h2.below hb) hx hn hk (F 1 (by decide)).1 (F 1 (by decide)).2 ht hx1 (by decide)).mono fun e w' hr => rqe_of hr L1 L1, fun W hb => RQPow_sE (h.below hb) (h2.below hb) hx1 hk⟩
theorem bits_zero (h : IV w n A c l x) (h2 : IV w m B d k y) (hc : Can x y) (hx : x = 0) : y = 1 ∧ max (bl l) (bl k) ≤ 1 := by
 have hy : y = 1 := by
  have h1 := hc.2
  have h3 := hc.1
  subst hx
  rw [Int.natAbs_zero, Nat.gcd_zero_left] at h1
  omega
 have b1 := bl_one h.ws.1 (isB_top h.can) (by rw [val_abs h.val, hx]; decide)
 have b2 := bl_one h2.ws.1 (isB_top h2.can) (by rw [val_abs h2.val, hy]; decide)
 exact ⟨hy, by omega⟩
theorem pows_both (h : IV w n A c l x) (h2 : IV w m B d k y) (hc : Can x y) (hn : -9223372036854775808 ≤ z ∧ z ≤ 9223372036854775807) (hs : max (bl l) (bl k) ≤ 1 ∨ z.natAbs ≤ 3000 / max (bl l) (bl k) ∨ 1048576 / max (bl l) (bl k) < z.natAbs) : Pows w n m A B c d l k z := by
 by_cases hx : x = 0
 ·obtain ⟨hy, hk⟩ := bits_zero h h2 hc hx
  rcases Int.lt_trichotomy z 0 with hz | hz | hz
  ·exact ⟨_, _, _, fun W hb => QPow_zn (h.below hb) (h2.below hb) hx hz, fun W hb => RQPow_zn (h.below hb) (h2.below hb) hx hz⟩
  ·subst hz
   exact ⟨_, _, _, fun W hb => QPow_n0 (h.below hb) (h2.below hb), fun W hb => RQPow_sD (h.below hb) (h2.below hb) hx hk rfl⟩
  ·refine ⟨_, _, _, fun W hb => QPow_zp (h.below hb) (h2.below hb) hx hz, fun W hb => ?_⟩
   have r := RQPow_sB (h.below hb) (h2.below hb) hx hk hz
   rwa [hx, hy] at r
 ·by_cases hk : max (bl l) (bl k) ≤ 1
  ·by_cases hz : z = 0
   ·subst hz
    rcases Int.lt_trichotomy x 0 with hx1 | hx1 | hx1
    ·exact ⟨_, _, _, fun W hb => QPow_n0 (h.below hb) (h2.below hb), fun W hb => RQPow_sC (h.below hb) (h2.below hb) hx1 hk rfl⟩
    ·exact absurd hx1 hx
    ·exact ⟨_, _, _, fun W hb => QPow_n0 (h.below hb) (h2.below hb), fun W hb => RQPow_sE (h.below hb) (h2.below hb) hx1 hk⟩
   ·exact pows_one h h2 hc hx ⟨hz, hn⟩ hk
  ·by_cases hz : z = 0
   ·subst hz
    refine ⟨1, 1, 0, fun W hb => QPow_n0 (h.below hb) (h2.below hb), fun W hb => ?_⟩
    have r := RQPow_bigp (e := 0) (h.below hb) (h2.below hb) hx hn (by omega) ⟨Int.natCast_nonneg _, Int.neg_nonpos_of_nonneg (Int.natCast_nonneg _)⟩ ⟨fun _ => Nat.zero_le _, fun j hj => pow_bits (kb := bl l) (e := 0) h.ws.1 (isB_top h.can) (Nat.le_refl _) (by omega) hj⟩ ⟨fun _ => Nat.zero_le _, fun j hj => pow_bits (kb := bl k) (e := 0) h2.ws.1 (isB_top h2.can) (Nat.le_refl _) (by omega) hj⟩ rfl (by have := hc.1; omega)
    have q := f_can (can_pow hc 0)
    rw [q.1, q.2, Int.pow_zero, Int.pow_zero] at r
    exact r
   ·rcases hs with hs | hs | hs
    ·exact absurd hs hk
    ·exact pows_big h h2 hc hx ⟨hz, hn⟩ (by omega) hs
    ·exact pows_lim h h2 hx ⟨hz, hn⟩ (by omega) (by omega)
open Go.RowKit Go.Shelf
variable {A A' B B' : Option Addr} {c c' d d' kb : Nat} {e u v x y : Int} {k k' l l' : List Nat} {m m' n n' : Bool} {w : World}
theorem divs_both (h : IV w n A c l x) (h2 : IV w m B d k y) (h3 : IV w n' A' c' l' u) (h4 : IV w m' B' d' k' v) (hc1 : Can x y) (hc2 : Can u v) (hx : Lt 120 x) (hy : Lt 120 y) (hu : Lt 120 u) (hv : Lt 120 v) : ∃ P Q er,
  (∀ W, Below w.heap.size w W → Calls Tryz.prog 38 #[.agg #[.bool n, .slice A l.length c, .bool m, .slice B k.length d], .agg #[.bool n', .slice A' l'.length c', .bool m', .slice B' k'.length d']] W (RQE W P Q er)) ∧ ∀ W, Below w.heap.size w W → Calls Tryz.prog 39 #[.agg #[.bool n, .slice A l.length c, .bool m, .slice B k.length d], .agg #[.bool n', .slice A' l'.length c', .bool m', .slice B' k'.length d']] W (RQE W P Q er) := by
 have hy0 : y ≠ 0 := by have := hc1.1; omega
 have hv0 : v ≠ 0 := by have := hc2.1; omega
 rcases Int.lt_trichotomy u 0 with h0 | h0 | h0
 ·exact ⟨_, _, _, fun W hb => QDiv_neg (h.below hb) (h2.below hb) (h3.below hb) (h4.below hb) hc1 hc2 hx hy hu hv h0, fun W hb => RQDiv_iv (h.below hb) (h2.below hb) (h3.below hb) (h4.below hb) hy0 hv0 hx hy hu hv (by omega)⟩
 ·exact ⟨_, _, _, fun W hb => QDiv_zero (h.below hb) (h2.below hb) (h3.below hb) (h4.below hb) hc1 hc2 hx hy hu hv h0, fun W hb => RQDiv_zero (h.below hb) (h2.below hb) (h3.below hb) (h4.below hb) hy0 hv0 hx hy hu hv h0⟩
 ·exact ⟨_, _, _, fun W hb => QDiv_pos (h.below hb) (h2.below hb) (h3.below hb) (h4.below hb) hc1 hc2 hx hy hu hv h0, fun W hb => RQDiv_iv (h.below hb) (h2.below hb) (h3.below hb) (h4.below hb) hy0 hv0 hx hy hu hv (by omega)⟩
def KC (kb : Nat) (e : Int) : Prop := kb ≤ 1 ∨ e.natAbs ≤ 3000 / kb ∨ 1048576 / kb < e.natAbs
theorem kc1 (h : 1048576 / (kb : Int) < e) : KC kb e := by
 have e1 : ((1048576 / kb : Nat) : Int) = 1048576 / (kb : Int) := Int.natCast_ediv 1048576 kb
 rw [← e1] at h
 exact .inr (.inr (by omega))
theorem kc2 (h : e < wrap64 (-(1048576 / (kb : Int)))) : KC kb e := by
 have e1 : ((1048576 / kb : Nat) : Int) = 1048576 / (kb : Int) := Int.natCast_ediv 1048576 kb
 have e2 : 1048576 / kb ≤ 1048576 := Nat.div_le_self _ _
 rw [← e1] at h
 have e4 := Int.natCast_nonneg (1048576 / kb)
 have e3 : wrap64 (-((1048576 / kb : Nat) : Int)) = -((1048576 / kb : Nat) : Int) := by unfold wrap64; omega
 rw [e3] at h
 exact .inr (.inr (by omega))
theorem kc3 (h1 : e ≤ 3000 / (kb : Int)) (h2 : wrap64 (-(3000 / (kb : Int))) ≤ e) : KC kb e := by
 have e1 : ((3000 / kb : Nat) : Int) = 3000 / (kb : Int) := Int.natCast_ediv 3000 kb
 have e2 : 3000 / kb ≤ 3000 := Nat.div_le_self _ _
 rw [← e1] at h1 h2
 have e4 := Int.natCast_nonneg (3000 / kb)
 have e3 : wrap64 (-((3000 / kb : Nat) : Int)) = -((3000 / kb : Nat) : Int) := by unfold wrap64; omega
 rw [e3] at h2
 exact .inr (.inl (by omega))
theorem kc4 (h : (kb : Int) ≤ 1) : KC kb e := .inl (by omega)
theorem RatComputes_n1 (hT : Tens w) (hA : WS w A l) (hB : WS w B k) (hA' : WS w A' l') (hB' : WS w B' k') (hL : l.length ≤ c ∧ k.length ≤ d ∧ l'.length ≤ c' ∧ k'.length ≤ d') (hf : (decide (l.length ≤ 12) && decide (k.length ≤ 12) && isQ n l m k) = false) :
  Calls Tryz.prog 5 #[.agg #[.bool n, .slice A l.length c, .bool m, .slice B k.length d], .agg #[.bool n', .slice A' l'.length c', .bool m', .slice B' k'.length d'], .int .i64 e] w fun e w' => e = .returned (.bool true) ∧ Below w.heap.size w w' := by
 have HTn := Hi hT
 have HA := Hi hA
 have HB := Hi hB
 have HA' := Hi hA'
 have HB' := Hi hB'
 have HL := Hi hL
 clear hT hA hB hA' hB' hL
 have HF := Hi hf
 clear hf
 obtain ⟨W1, hW1, hw1, x0, x1⟩ := hdQQ w n A c l m B d k n' A' c' l' m' B' d' k'
 go_enter Tryz.func5, Tryz.ntmps5
 go_wp2_with fail
 rw [← hW1]
 clear hW1
 refine (small_any (N := 12) (by decide) (HA.out.below hw1) (HB.out.below hw1) HL.out.1 HL.out.2.1).mono ?_
 rintro e wa ⟨rfl, hb⟩
 replace x0 := x0.below hb
 replace x1 := x1.below hb
 have hw1_ := bt hw1 hb
 clear hb hw1
 rw [HF.out]
 go_wp2_with fail
 refine (sane2 _ (HTn.out.below hw1_)).mono ?_
 rintro e wz ⟨rfl, hb⟩
 replace x0 := x0.below hb
 replace x1 := x1.below hb
 exact mafd61
theorem RatComputes_n2 (hT : Tens w) (hA : WS w A l) (hB : WS w B k) (hA' : WS w A' l') (hB' : WS w B' k') (hL : l.length ≤ c ∧ k.length ≤ d ∧ l'.length ≤ c' ∧ k'.length ≤ d') (ht : (decide (l.length ≤ 12) && decide (k.length ≤ 12) && isQ n l m k) = true) (hf : (decide (l'.length ≤ 12) && decide (k'.length ≤ 12) && isQ n' l' m' k') = false) :
  Calls Tryz.prog 5 #[.agg #[.bool n, .slice A l.length c, .bool m, .slice B k.length d], .agg #[.bool n', .slice A' l'.length c', .bool m', .slice B' k'.length d'], .int .i64 e] w fun e w' => e = .returned (.bool true) ∧ Below w.heap.size w w' := by
 have HTn := Hi hT
 have HA := Hi hA
 have HB := Hi hB
 have HA' := Hi hA'
 have HB' := Hi hB'
 have HL := Hi hL
 clear hT hA hB hA' hB' hL
 have HF := Hi hf
 have HT := Hi ht
 clear hf ht
 obtain ⟨W1, hW1, hw1, x0, x1⟩ := hdQQ w n A c l m B d k n' A' c' l' m' B' d' k'
 go_enter Tryz.func5, Tryz.ntmps5
 go_wp2_with fail
 rw [← hW1]
 clear hW1
 refine (small_any (N := 12) (by decide) (HA.out.below hw1) (HB.out.below hw1) HL.out.1 HL.out.2.1).mono ?_
 rintro e wa ⟨rfl, hb⟩
 replace x0 := x0.below hb
 replace x1 := x1.below hb
 have hw1_ := bt hw1 hb
 clear hb hw1
 rw [HT.out]
 obtain ⟨C00, C01, C02, C03⟩ := x0.cs
 obtain ⟨C10, C11, C12, C13⟩ := x1.cs
 go_wp2_with fail
 refine (small_any (N := 12) (by decide) (HA'.out.below hw1_) (HB'.out.below hw1_) HL.out.2.2.1 HL.out.2.2.2).mono ?_
 rintro e wb ⟨rfl, hb⟩
 clear C00 C01 C02 C03 C10 C11 C12 C13
 replace x0 := x0.below hb
 replace x1 := x1.below hb
 have hw2_ := bt hw1_ hb
 clear hb hw1_
 rw [HF.out]
 go_wp2_with fail
 refine (sane2 _ (HTn.out.below hw2_)).mono ?_
 rintro e wz ⟨rfl, hb⟩
 replace x0 := x0.below hb
 replace x1 := x1.below hb
 have hw3_ := bt hw2_ hb
 clear hb hw2_
 go_wp2_with fail
 go_ret
 exact ⟨rfl, hw3_⟩
theorem RatComputes_m (h : IV w n A c l x) (h2 : IV w m B d k y) (h3 : IV w n' A' c' l' u) (h4 : IV w m' B' d' k' v) (he : -9223372036854775808 ≤ e ∧ e ≤ 9223372036854775807) (hT : Tens w) (hc1 : Can x y) (hc2 : Can u v) (ht : (decide (l.length ≤ 12) && decide (k.length ≤ 12) && isQ n l m k) = true) (ht2 : (decide (l'.length ≤ 12) && decide (k'.length ≤ 12) && isQ n' l' m' k') = true) (hL : l.length ≤ c ∧ k.length ≤ d ∧ l'.length ≤ c' ∧ k'.length ≤ d') (hLt : Lt 120 x ∧ Lt 120 y ∧ Lt 120 u ∧ Lt 120 v) :
  Calls Tryz.prog 5 #[.agg #[.bool n, .slice A l.length c, .bool m, .slice B k.length d], .agg #[.bool n', .slice A' l'.length c', .bool m', .slice B' k'.length d'], .int .i64 e] w fun e w' => e = .returned (.bool true) ∧ Below w.heap.size w w' := by
 have HE := Hi he
 clear he
 have H1 := Hi h
 have H2 := Hi h2
 have H3 := Hi h3
 have H4 := Hi h4
 have HTn := Hi hT
 have HT := Hi ht
 have HT2 := Hi ht2
 have HC1 := Hi hc1
 have HC2 := Hi hc2
 have HL := Hi hL
 have HLt := Hi hLt
 clear h h2 h3 h4 hT ht ht2 hc1 hc2 hL hLt
 obtain ⟨W1, hW1, hw1, x0, x1⟩ := hdQQ w n A c l m B d k n' A' c' l' m' B' d' k'
 go_enter Tryz.func5, Tryz.ntmps5
 go_wp2_with fail
 rw [← hW1]
 clear hW1
 refine (small_any (N := 12) (by decide) (H1.out.ws.below hw1) (H2.out.ws.below hw1) HL.out.1 HL.out.2.1).mono ?_
 rintro e w31 ⟨rfl, hb⟩
 replace x0 := x0.below hb
 replace x1 := x1.below hb
 have hw1_ := bt hw1 hb
 have Bhw1_ := Hi hb
 clear hb hw1
 rw [HT.out]
 obtain ⟨C00, C01, C02, C03⟩ := x0.cs
 obtain ⟨C10, C11, C12, C13⟩ := x1.cs
 go_wp2_with fail
 refine (small_any (N := 12) (by decide) (H3.out.ws.below hw1_) (H4.out.ws.below hw1_) HL.out.2.2.1 HL.out.2.2.2).mono ?_
 rintro e w32 ⟨rfl, hb⟩
 clear C00 C01 C02 C03 C10 C11 C12 C13
 replace x0 := x0.below hb
 replace x1 := x1.below hb
 have hw2_ := bt hw1_ hb
 have Bhw2_ := Hi hb
 clear hb hw1_
 rw [HT2.out]
 obtain ⟨C00, C01, C02, C03⟩ := x0.cs
 obtain ⟨C10, C11, C12, C13⟩ := x1.cs
 go_wp2_with fail
 obtain ⟨P, Q, er, hd⟩ := divs_both H1.out H2.out H3.out H4.out HC1.out HC2.out HLt.out.1 HLt.out.2.1 HLt.out.2.2.1 HLt.out.2.2.2
 have HD := Hi hd
 clear hd
 refine (HD.out.1 _ hw2_).mono ?_
 rintro e w33 ⟨nq, Aq, cq, lq, nr, Ar, cr, lr, rfl, iq, ir, hb⟩
 clear C00 C01 C02 C03 C10 C11 C12 C13
 replace x0 := x0.below hb
 replace x1 := x1.below hb
 have hw3_ := bt hw2_ hb
 have Bhw3_ := Hi hb
 clear hb hw2_
 have Iq := Hi iq
 clear iq
 have Ir := Hi ir
 clear ir
 obtain ⟨w34, hw, xq, hb⟩ := nb4 w33 nq Aq cq lq nr Ar cr lr
 refine gA01 ?_
 clear hw
 intros
 replace x0 := x0.below hb
 replace x1 := x1.below hb
 have hw4_ := bt hw3_ hb
 have Bhw4_ := Hi hb
 clear hb hw3_
 refine (HD.out.2 _ hw4_).mono ?_
 rintro e w35 ⟨ns, As, cs, ls, nt, At, ct, lt, rfl, is, it, hb⟩
 replace x0 := x0.below hb
 replace x1 := x1.below hb
 replace xq := xq.below hb
 have hw5_ := bt hw4_ hb
 have Bhw5_ := Hi hb
 clear hb hw4_
 have Is := Hi is
 clear is
 have It := Hi it
 clear it
 obtain ⟨w36, hw, xs, hb⟩ := nb4 w35 ns As cs ls nt At ct lt
 refine gA01q ?_
 clear hw
 intros
 replace x0 := x0.below hb
 replace x1 := x1.below hb
 replace xq := xq.below hb
 have hw6_ := bt hw5_ hb
 have Bhw6_ := Hi hb
 clear hb hw5_
 go_cut [11] (fun v wx => v = .bool true ∧ Below w36.heap.size w36 wx)
 case first =>
  as_aux_lemma =>
  have HC := (hj x0.hc (hj x1.hc (hj xq.hc xs.hc)))
  have HW := Hi hw6_
  have Gx0 := Hi x0
  have Gx1 := Hi x1
  have Gxq := Hi xq
  have Gxs := Hi xs
  clear x0 x1 xq xs hw6_
  refine rgh HC fun hHeld => ?_
  refine tk 0 ?_
  refine tk 2 ?_
  refine cl 1 fun K hK => ?_
  go_simp
  go_at_call 40
  refine (QSign_iv (H1.out.below (bt HW.out (bw (b0 _)))) (H2.out.below (bt HW.out (bw (b0 _))))).mono ?_
  rintro e y1 ⟨rfl, hb⟩
  have HBy1 := Hi (bt (bw (b0 w36)) hb)
  clear hb  hHeld
  refine rk hK (HC.out _ HBy1.out) fun hHeld => ?_
  clear hK K
  refine cl 3 fun K hK => ?_
  go_simp
  go_at_call 41
  refine (RQSign_iv (H1.out.below (bt HW.out HBy1.out)) (H2.out.below (bt HW.out HBy1.out))).mono ?_
  rintro e y2 ⟨rfl, hb⟩
  have HBy2 := Hi (bt HBy1.out hb)
  clear hb  hHeld
  refine rk hK (HC.out _ HBy2.out) fun hHeld => ?_
  clear hK K
  refine tk 4 ?_
  refine tk 5 ?_
  refine tk 6 ?_
  refine tk 7 ?_
  refine tk 9 ?_
  refine tk 10 ?_
  refine cl 8 fun K hK => ?_
  go_simp
  go_at_call 42
  refine (QCmp_iv (H1.out.below (bt HW.out HBy2.out)) (H2.out.below (bt HW.out HBy2.out)) (H3.out.below (bt HW.out HBy2.out)) (H4.out.below (bt HW.out HBy2.out)) HLt.out.1 HLt.out.2.1 HLt.out.2.2.1 HLt.out.2.2.2).mono ?_
  rintro e y3 ⟨rfl, hb⟩
  have HBy3 := Hi (bt HBy2.out hb)
  clear hb  hHeld
  refine rk hK (HC.out _ HBy3.out) fun hHeld => ?_
  clear hK K
  refine cl 11 fun K hK => ?_
  go_simp
  go_at_call 43
  refine (RQCmp_iv (H1.out.below (bt HW.out HBy3.out)) (H2.out.below (bt HW.out HBy3.out)) (H3.out.below (bt HW.out HBy3.out)) (H4.out.below (bt HW.out HBy3.out)) HLt.out.1 HLt.out.2.1 HLt.out.2.2.1 HLt.out.2.2.2).mono ?_
  rintro e y4 ⟨rfl, hb⟩
  have HBy4 := Hi (bt HBy3.out hb)
  clear hb  hHeld
  refine rk hK (HC.out _ HBy4.out) fun hHeld => ?_
  clear hK K
  refine tk 12 ?_
  refine tk 13 ?_
  refine tk 14 ?_
  refine tk 15 ?_
  refine tk 17 ?_
  refine cl 16 fun K hK => ?_
  go_simp
  go_at_call 44
  refine (QNeg_iv (H1.out.below (bt HW.out HBy4.out)) (H2.out.below (bt HW.out HBy4.out))).mono ?_
  rintro e y5 ⟨n41, A41, c41, l41, n42, A42, c42, l42, rfl, i41, i42, hb⟩
  have HBy5 := Hi (bt HBy4.out hb)
  have I41 := Hi i41
  have I42 := Hi i42
  clear hb i41 i42 hHeld
  refine rk hK (HC.out _ HBy5.out) fun hHeld => ?_
  clear hK K
  refine cl 18 fun K hK => ?_
  go_simp
  go_at_call 45
  refine (RQNeg_iv (H1.out.below (bt HW.out HBy5.out)) (H2.out.below (bt HW.out HBy5.out))).mono ?_
  rintro e y6 ⟨n43, A43, c43, l43, n44, A44, c44, l44, rfl, i43, i44, hb⟩
  have hb6 := hb
  have HBy6 := Hi (bt HBy5.out hb)
  have I43 := Hi i43
  have I44 := Hi i44
  clear hb i43 i44 hHeld
  refine rk hK (HC.out _ HBy6.out) fun hHeld => ?_
  clear hK K
  refine cl 19 fun K hK => ?_
  go_simp
  go_at_call 32
  refine (RQSame_iv (I41.out.below hb6) (I42.out.below hb6) I43.out I44.out).mono ?_
  rintro e y7 ⟨rfl, hb⟩
  have HBy7 := Hi (bt HBy6.out hb)
  clear hb  hHeld
  refine rk hK (HC.out _ HBy7.out) fun hHeld => ?_
  clear hK K
  refine tk 20 ?_
  refine tk 21 ?_
  refine tk 22 ?_
  refine tk 23 ?_
  refine cl 24 fun K hK => ?_
  go_simp
  go_at_call 32
  refine (RQSame_iv (Iq.out.b.below HBy7.out) (Ir.out.b.below HBy7.out) (Is.out.b.below HBy7.out) (It.out.b.below HBy7.out)).mono ?_
  rintro e y8 ⟨rfl, hb⟩
  have HBy8 := Hi (bt HBy7.out hb)
  clear hb  hHeld
  refine rk hK (HC.out _ HBy8.out) fun hHeld => ?_
  clear hK K
  refine tk 25 ?_
  refine tk 26 ?_
  refine tk 27 ?_
  refine tk 28 ?_
  refine tk 29 ?_
  refine tk 30 ?_
  refine tk 31 ?_
  refine tk 32 ?_
  refine tk 34 ?_
  refine cl 33 fun K hK => ?_
  go_simp
  go_at_call 46
  refine (QFloor_iv (H1.out.below (bt HW.out HBy8.out)) (H2.out.below (bt HW.out HBy8.out)) (Int.ne_of_gt HC1.out.1)).mono ?_
  rintro e y9 ⟨n45, A45, c45, l45, rfl, i45, hb⟩
  have HBy9 := Hi (bt HBy8.out hb)
  have I45 := Hi i45
  clear hb i45 hHeld
  refine rk hK (HC.out _ HBy9.out) fun hHeld => ?_
  clear hK K
  refine cl 35 fun K hK => ?_
  go_simp
  go_at_call 47
  refine (RQFloor_iv (H1.out.below (bt HW.out HBy9.out)) (H2.out.below (bt HW.out HBy9.out)) (Int.ne_of_gt HC1.out.1)).mono ?_
  rintro e y10 ⟨n46, A46, c46, l46, rfl, i46, hb⟩
  have hb10 := hb
  have HBy10 := Hi (bt HBy9.out hb)
  have I46 := Hi i46
  clear hb i46 hHeld
  refine rk hK (HC.out _ HBy10.out) fun hHeld => ?_
  clear hK K
  refine cl 36 fun K hK => ?_
  go_simp
  go_at_call 17
  refine (Same_iv (I45.out.below hb10) I46.out).mono ?_
  rintro e y11 ⟨rfl, hb⟩
  have HBy11 := Hi (bt HBy10.out hb)
  clear hb  hHeld
  refine rk hK (HC.out _ HBy11.out) fun hHeld => ?_
  clear hK K
  refine tk 37 ?_
  refine tk 38 ?_
  refine wpAnyH_done (by kernel_rfl) ?_ _
  clear hHeld
  have x0 := Gx0.out.below HBy11.out
  have x1 := Gx1.out.below HBy11.out
  have xq := Gxq.out.below HBy11.out
  have xs := Gxs.out.below HBy11.out
  replace Iq := Hi (Iq.out.b.below HBy11.out)
  replace Ir := Hi (Ir.out.b.below HBy11.out)
  replace Is := Hi (Is.out.b.below HBy11.out)
  replace It := Hi (It.out.b.below HBy11.out)
  have hw7_ := bt HW.out HBy11.out
  go_wp2_with fail
  go_meet
  exact ⟨rfl, HBy11.out⟩
 case rest =>
 obtain ⟨rfl, hb⟩ := hcut
 obtain ⟨w50, hwn⟩ : ∃ v, v = wc := ⟨_, rfl⟩
 rw [← hwn] at hb ⊢
 clear hwn wc
 replace x0 := x0.below hb
 replace x1 := x1.below hb
 replace xq := xq.below hb
 replace xs := xs.below hb
 have hw8_ := bt hw6_ hb
 have Bhw8_ := Hi hb
 clear hb hw6_
 go_wp2_with fail
 go_cut [107] (fun v wx => v = .bool false ∧ Below w50.heap.size w50 wx)
 case first =>
  as_aux_lemma =>
  have HC := (hj x0.hc x1.hc)
  have HW := Hi hw8_
  have Gx0 := Hi x0
  have Gx1 := Hi x1
  have Gxq := Hi xq
  have Gxs := Hi xs
  clear x0 x1 xq xs hw8_
  refine rgh HC fun hHeld => ?_
  refine tk 0 ?_
  refine tk 1 ?_
  refine tk 2 ?_
  refine tk 3 ?_
  refine tk 4 ?_
  refine tk 6 ?_
  refine tk 7 ?_
  refine cl 5 fun K hK => ?_
  go_simp
  go_at_call 48
  refine (QAdd_iv (H1.out.below (bt HW.out (bw (b0 _)))) (H2.out.below (bt HW.out (bw (b0 _)))) (H3.out.below (bt HW.out (bw (b0 _)))) (H4.out.below (bt HW.out (bw (b0 _)))) HC1.out HC2.out HLt.out.1 HLt.out.2.1 HLt.out.2.2.1 HLt.out.2.2.2).mono ?_
  rintro e z1 ⟨n100, A100, c100, l100, n101, A101, c101, l101, rfl, i100, i101, hb⟩
  have HBz1 := Hi (bt (bw (b0 w50)) hb)
  have I100 := Hi i100
  have I101 := Hi i101
  clear hb i100 i101 hHeld
  refine rk hK (HC.out _ HBz1.out) fun hHeld => ?_
  clear hK K
  refine cl 8 fun K hK => ?_
  go_simp
  go_at_call 49
  refine (RQAdd_iv (H1.out.below (bt HW.out HBz1.out)) (H2.out.below (bt HW.out HBz1.out)) (H3.out.below (bt HW.out HBz1.out)) (H4.out.below (bt HW.out HBz1.out)) (Int.ne_of_gt HC1.out.1) (Int.ne_of_gt HC2.out.1) HLt.out.1 HLt.out.2.1 HLt.out.2.2.1 HLt.out.2.2.2).mono ?_
  rintro e z2 ⟨n102, A102, c102, l102, n103, A103, c103, l103, rfl, i102, i103, hb⟩
  have hbz2 := hb
  have HBz2 := Hi (bt HBz1.out hb)
  have I102 := Hi i102
  have I103 := Hi i103
  clear hb i102 i103 hHeld
  refine rk hK (HC.out _ HBz2.out) fun hHeld => ?_
  clear hK K
  refine cl 9 fun K hK => ?_
  go_simp
  go_at_call 32
  refine (RQSame_iv (I100.out.below hbz2) (I101.out.below hbz2) I102.out I103.out).mono ?_
  rintro e z3 ⟨rfl, hb⟩
  have HBz3 := Hi (bt HBz2.out hb)
  clear hb  hHeld
  refine rk hK (HC.out _ HBz3.out) fun hHeld => ?_
  clear hK K
  refine tk 10 ?_
  refine tk 11 ?_
  refine tk 12 ?_
  refine tk 13 ?_
  refine tk 14 ?_
  refine tk 16 ?_
  refine tk 17 ?_
  refine cl 15 fun K hK => ?_
  go_simp
  go_at_call 50
  refine (QSub_iv (H1.out.below (bt HW.out HBz3.out)) (H2.out.below (bt HW.out HBz3.out)) (H3.out.below (bt HW.out HBz3.out)) (H4.out.below (bt HW.out HBz3.out)) HC1.out HC2.out HLt.out.1 HLt.out.2.1 HLt.out.2.2.1 HLt.out.2.2.2).mono ?_
  rintro e z4 ⟨n104, A104, c104, l104, n105, A105, c105, l105, rfl, i104, i105, hb⟩
  have HBz4 := Hi (bt HBz3.out hb)
  have I104 := Hi i104
  have I105 := Hi i105
  clear hb i104 i105 hHeld
  refine rk hK (HC.out _ HBz4.out) fun hHeld => ?_
  clear hK K
  refine cl 18 fun K hK => ?_
  go_simp
  go_at_call 51
  refine (RQSub_iv (H1.out.below (bt HW.out HBz4.out)) (H2.out.below (bt HW.out HBz4.out)) (H3.out.below (bt HW.out HBz4.out)) (H4.out.below (bt HW.out HBz4.out)) (Int.ne_of_gt HC1.out.1) (Int.ne_of_gt HC2.out.1) HLt.out.1 HLt.out.2.1 HLt.out.2.2.1 HLt.out.2.2.2).mono ?_
  rintro e z5 ⟨n106, A106, c106, l106, n107, A107, c107, l107, rfl, i106, i107, hb⟩
  have hbz5 := hb
  have HBz5 := Hi (bt HBz4.out hb)
  have I106 := Hi i106
  have I107 := Hi i107
  clear hb i106 i107 hHeld
  refine rk hK (HC.out _ HBz5.out) fun hHeld => ?_
  clear hK K
  refine cl 19 fun K hK => ?_
  go_simp
  go_at_call 32
  refine (RQSame_iv (I104.out.below hbz5) (I105.out.below hbz5) I106.out I107.out).mono ?_
  rintro e z6 ⟨rfl, hb⟩
  have HBz6 := Hi (bt HBz5.out hb)
  clear hb  hHeld
  refine rk hK (HC.out _ HBz6.out) fun hHeld => ?_
  clear hK K
  refine tk 20 ?_
  refine tk 21 ?_
  refine tk 22 ?_
  refine tk 23 ?_
  refine tk 24 ?_
  refine tk 26 ?_
  refine tk 27 ?_
  refine cl 25 fun K hK => ?_
  go_simp
  go_at_call 52
  refine (QMul_iv (H1.out.below (bt HW.out HBz6.out)) (H2.out.below (bt HW.out HBz6.out)) (H3.out.below (bt HW.out HBz6.out)) (H4.out.below (bt HW.out HBz6.out)) HC1.out HC2.out HLt.out.1 HLt.out.2.1 HLt.out.2.2.1 HLt.out.2.2.2).mono ?_
  rintro e z7 ⟨n108, A108, c108, l108, n109, A109, c109, l109, rfl, i108, i109, hb⟩
  have HBz7 := Hi (bt HBz6.out hb)
  have I108 := Hi i108
  have I109 := Hi i109
  clear hb i108 i109 hHeld
  refine rk hK (HC.out _ HBz7.out) fun hHeld => ?_
  clear hK K
  refine cl 28 fun K hK => ?_
  go_simp
  go_at_call 53
  refine (RQMul_iv (H1.out.below (bt HW.out HBz7.out)) (H2.out.below (bt HW.out HBz7.out)) (H3.out.below (bt HW.out HBz7.out)) (H4.out.below (bt HW.out HBz7.out)) (Int.ne_of_gt HC1.out.1) (Int.ne_of_gt HC2.out.1) HLt.out.1 HLt.out.2.1 HLt.out.2.2.1 HLt.out.2.2.2).mono ?_
  rintro e z8 ⟨n110, A110, c110, l110, n111, A111, c111, l111, rfl, i110, i111, hb⟩
  have hbz8 := hb
  have HBz8 := Hi (bt HBz7.out hb)
  have I110 := Hi i110
  have I111 := Hi i111
  clear hb i110 i111 hHeld
  refine rk hK (HC.out _ HBz8.out) fun hHeld => ?_
  clear hK K
  refine cl 29 fun K hK => ?_
  go_simp
  go_at_call 32
  refine (RQSame_iv (I108.out.below hbz8) (I109.out.below hbz8) I110.out I111.out).mono ?_
  rintro e z9 ⟨rfl, hb⟩
  have HBz9 := Hi (bt HBz8.out hb)
  clear hb  hHeld
  refine rk hK (HC.out _ HBz9.out) fun hHeld => ?_
  clear hK K
  refine tk 30 ?_
  refine tk 31 ?_
  refine wpAnyH_done (by kernel_rfl) ?_ _
  clear hHeld
  have x0 := Gx0.out.below HBz9.out
  have x1 := Gx1.out.below HBz9.out
  replace Iq := Hi (Iq.out.b.below HBz9.out)
  replace Ir := Hi (Ir.out.b.below HBz9.out)
  replace Is := Hi (Is.out.b.below HBz9.out)
  replace It := Hi (It.out.b.below HBz9.out)
  have hw9_ := bt HW.out HBz9.out
  go_wp2_with fail
  go_meet
  exact ⟨rfl, HBz9.out⟩
 case rest =>
 obtain ⟨rfl, hb⟩ := hcut
 obtain ⟨w70, hwn⟩ : ∃ v, v = wc := ⟨_, rfl⟩
 rw [← hwn] at hb ⊢
 clear hwn wc
 replace x0 := x0.below hb
 replace x1 := x1.below hb
 replace xq := xq.below hb
 replace xs := xs.below hb
 have hw10_ := bt hw8_ hb
 have Bhw10_ := Hi hb
 clear hb hw8_
 obtain ⟨C00, C01, C02, C03⟩ := x0.cs
 obtain ⟨C10, C11, C12, C13⟩ := x1.cs
 go_wp2_with fail
 refine (RQBits_iv (H1.out.below hw10_) (H2.out.below hw10_)).mono ?_
 rintro e w71 ⟨rfl, hb⟩
 clear C00 C01 C02 C03 C10 C11 C12 C13
 replace x0 := x0.below hb
 replace x1 := x1.below hb
 replace xq := xq.below hb
 replace xs := xs.below hb
 have hw11_ := bt hw10_ hb
 have Bhw11_ := Hi hb
 clear hb hw10_
 obtain ⟨kb, hkb⟩ : ∃ kb : Nat, kb = max (bl l) (bl k) := ⟨_, rfl⟩
 rw [← hkb]
 have HKB := Hi hkb
 clear hkb
 obtain ⟨C00, C01, C02, C03⟩ := x0.cs
 obtain ⟨C10, C11, C12, C13⟩ := x1.cs
 go_wp2_with fail
 ·clear C00 C01 C02 C03 C10 C11 C12 C13
  refine (sane2 _ (HTn.out.below hw11_)).mono ?_
  rintro e1 wz ⟨rfl, hb⟩
  replace x0 := x0.below hb
  replace x1 := x1.below hb
  replace xq := xq.below hb
  replace xs := xs.below hb
  have hw12_ := bt hw11_ hb
  have Bhw12_ := Hi hb
  clear hb hw11_
  go_wp2_with fail
  go_ret
  exact ⟨rfl, hw12_⟩
 ·have HS : KC kb e := by first | exact kc1 (by assumption) | exact kc2 (by assumption) | exact kc3 (by assumption) (by assumption) | exact kc4 (by assumption)
  obtain ⟨P2, Q2, er2, hp⟩ := pows_both H1.out H2.out HC1.out HE.out (by rw [← HKB.out]; exact HS)
  have HP := Hi hp
  clear hp
  refine (HP.out.1 _ hw11_).mono ?_
  rintro e w72 ⟨np, Ap, cp, lp, nv, Av, cv, lv, rfl, ip, iv, hb⟩
  replace x0 := x0.below hb
  replace x1 := x1.below hb
  replace xq := xq.below hb
  replace xs := xs.below hb
  have hw13_ := bt hw11_ hb
  have Bhw13_ := Hi hb
  clear hb hw11_
  have Ip := Hi ip
  clear ip
  have Iv := Hi iv
  clear iv
  obtain ⟨w73, hw, xp, hb⟩ := nb4 w72 np Ap cp lp nv Av cv lv
  refine gA01qs ?_
  clear hw
  intros
  replace x0 := x0.below hb
  replace x1 := x1.below hb
  replace xq := xq.below hb
  replace xs := xs.below hb
  have hw14_ := bt hw13_ hb
  have Bhw14_ := Hi hb
  clear hb hw13_
  refine (HP.out.2 _ hw14_).mono ?_
  rintro e w74 ⟨ny, Ay, cy, ly, nz, Az, cz, lz, rfl, iy, iz, hb⟩
  replace x0 := x0.below hb
  replace x1 := x1.below hb
  replace xq := xq.below hb
  replace xs := xs.below hb
  replace xp := xp.below hb
  have hw15_ := bt hw14_ hb
  have Bhw15_ := Hi hb
  clear hb hw14_
  have Iy := Hi iy
  clear iy
  have Iz := Hi iz
  clear iz
  obtain ⟨w75, hw, xy, hb⟩ := nb4 w74 ny Ay cy ly nz Az cz lz
  refine gA01qsp ?_
  clear hw
  intros
  replace x0 := x0.below hb
  replace x1 := x1.below hb
  replace xq := xq.below hb
  replace xs := xs.below hb
  replace xp := xp.below hb
  have hw16_ := bt hw15_ hb
  have Bhw16_ := Hi hb
  clear hb hw15_
  refine (sane2 _ (HTn.out.below hw16_)).mono ?_
  rintro e1 w76 ⟨rfl, hb⟩
  replace x0 := x0.below hb
  replace x1 := x1.below hb
  replace xq := xq.below hb
  replace xs := xs.below hb
  replace xp := xp.below hb
  replace xy := xy.below hb
  have hw17_ := bt hw16_ hb
  have Bhw17_ := Hi hb
  clear hb hw16_
  obtain ⟨Cp0, Cp1, Cp2, Cp3⟩ := xp.cs
  obtain ⟨Cy0, Cy1, Cy2, Cy3⟩ := xy.cs
  go_wp2_with fail
  refine (RQSame_iv Ip.out.b Iv.out.b Iy.out.b Iz.out.b).mono ?_
  rintro e w77 ⟨rfl, hb⟩
  clear Cp0 Cp1 Cp2 Cp3 Cy0 Cy1 Cy2 Cy3
  replace x0 := x0.below hb
  replace x1 := x1.below hb
  replace xq := xq.below hb
  replace xs := xs.below hb
  replace xp := xp.below hb
  replace xy := xy.below hb
  have hw18_ := bt hw17_ hb
  have Bhw18_ := Hi hb
  clear hb hw17_
  go_wp2_with fail
  go_ret
  exact ⟨rfl, hw18_⟩
 ·have HS : KC kb e := by first | exact kc1 (by assumption) | exact kc2 (by assumption) | exact kc3 (by assumption) (by assumption) | exact kc4 (by assumption)
  obtain ⟨P2, Q2, er2, hp⟩ := pows_both H1.out H2.out HC1.out HE.out (by rw [← HKB.out]; exact HS)
  have HP := Hi hp
  clear hp
  refine (HP.out.1 _ hw11_).mono ?_
  rintro e w78 ⟨np, Ap, cp, lp, nv, Av, cv, lv, rfl, ip, iv, hb⟩
  replace x0 := x0.below hb
  replace x1 := x1.below hb
  replace xq := xq.below hb
  replace xs := xs.below hb
  have hw19_ := bt hw11_ hb
  have Bhw19_ := Hi hb
  clear hb hw11_
  have Ip := Hi ip
  clear ip
  have Iv := Hi iv
  clear iv
  obtain ⟨w79, hw, xp, hb⟩ := nb4 w78 np Ap cp lp nv Av cv lv
  refine gA01qs ?_
  clear hw
  intros
  replace x0 := x0.below hb
  replace x1 := x1.below hb
  replace xq := xq.below hb
  replace xs := xs.below hb
  have hw20_ := bt hw19_ hb
  have Bhw20_ := Hi hb
  clear hb hw19_
  refine (HP.out.2 _ hw20_).mono ?_
  rintro e w80 ⟨ny, Ay, cy, ly, nz, Az, cz, lz, rfl, iy, iz, hb⟩
  replace x0 := x0.below hb
  replace x1 := x1.below hb
  replace xq := xq.below hb
  replace xs := xs.below hb
  replace xp := xp.below hb
  have hw21_ := bt hw20_ hb
  have Bhw21_ := Hi hb
  clear hb hw20_
  have Iy := Hi iy
  clear iy
  have Iz := Hi iz
  clear iz
  obtain ⟨w81, hw, xy, hb⟩ := nb4 w80 ny Ay cy ly nz Az cz lz
  refine gA01qsp ?_
  clear hw
  intros
  replace x0 := x0.below hb
  replace x1 := x1.below hb
  replace xq := xq.below hb
  replace xs := xs.below hb
  replace xp := xp.below hb
  have hw22_ := bt hw21_ hb
  have Bhw22_ := Hi hb
  clear hb hw21_
  refine (sane2 _ (HTn.out.below hw22_)).mono ?_
  rintro e1 w82 ⟨rfl, hb⟩
  replace x0 := x0.below hb
  replace x1 := x1.below hb
  replace xq := xq.below hb
  replace xs := xs.below hb
  replace xp := xp.below hb
  replace xy := xy.below hb
  have hw23_ := bt hw22_ hb
  have Bhw23_ := Hi hb
  clear hb hw22_
  obtain ⟨Cp0, Cp1, Cp2, Cp3⟩ := xp.cs
  obtain ⟨Cy0, Cy1, Cy2, Cy3⟩ := xy.cs
  go_wp2_with fail
  refine (RQSame_iv Ip.out.b Iv.out.b Iy.out.b Iz.out.b).mono ?_
  rintro e w83 ⟨rfl, hb⟩
  clear Cp0 Cp1 Cp2 Cp3 Cy0 Cy1 Cy2 Cy3
  replace x0 := x0.below hb
  replace x1 := x1.below hb
  replace xq := xq.below hb
  replace xs := xs.below hb
  replace xp := xp.below hb
  replace xy := xy.below hb
  have hw24_ := bt hw23_ hb
  have Bhw24_ := Hi hb
  clear hb hw23_
  go_wp2_with fail
  go_ret
  exact ⟨rfl, hw24_⟩
 ·refine (sane2 _ (HTn.out.below hw11_)).mono ?_
  rintro e1 wz ⟨rfl, hb⟩
  replace x0 := x0.below hb
  replace x1 := x1.below hb
  replace xq := xq.below hb
  replace xs := xs.below hb
  have hw25_ := bt hw11_ hb
  have Bhw25_ := Hi hb
  clear hb hw11_
  go_wp2_with fail
  go_ret
  exact ⟨rfl, hw25_⟩
 ·refine (sane2 _ (HTn.out.below hw11_)).mono ?_
  rintro e1 wz ⟨rfl, hb⟩
  replace x0 := x0.below hb
  replace x1 := x1.below hb
  replace xq := xq.below hb
  replace xs := xs.below hb
  have hw26_ := bt hw11_ hb
  have Bhw26_ := Hi hb
  clear hb hw11_
  go_wp2_with fail
  go_ret
  exact ⟨rfl, hw26_⟩
 ·have HS : KC kb e := by first | exact kc1 (by assumption) | exact kc2 (by assumption) | exact kc3 (by assumption) (by assumption) | exact kc4 (by assumption)
  obtain ⟨P2, Q2, er2, hp⟩ := pows_both H1.out H2.out HC1.out HE.out (by rw [← HKB.out]; exact HS)
  have HP := Hi hp
  clear hp
  refine (HP.out.1 _ hw11_).mono ?_
  rintro e w84 ⟨np, Ap, cp, lp, nv, Av, cv, lv, rfl, ip, iv, hb⟩
  replace x0 := x0.below hb
  replace x1 := x1.below hb
  replace xq := xq.below hb
  replace xs := xs.below hb
  have hw27_ := bt hw11_ hb
  have Bhw27_ := Hi hb
  clear hb hw11_
  have Ip := Hi ip
  clear ip
  have Iv := Hi iv
  clear iv
  obtain ⟨w85, hw, xp, hb⟩ := nb4 w84 np Ap cp lp nv Av cv lv
  refine gA01qs ?_
  clear hw
  intros
  replace x0 := x0.below hb
  replace x1 := x1.below hb
  replace xq := xq.below hb
  replace xs := xs.below hb
  have hw28_ := bt hw27_ hb
  have Bhw28_ := Hi hb
  clear hb hw27_
  refine (HP.out.2 _ hw28_).mono ?_
  rintro e w86 ⟨ny, Ay, cy, ly, nz, Az, cz, lz, rfl, iy, iz, hb⟩
  replace x0 := x0.below hb
  replace x1 := x1.below hb
  replace xq := xq.below hb
  replace xs := xs.below hb
  replace xp := xp.below hb
  have hw29_ := bt hw28_ hb
  have Bhw29_ := Hi hb
  clear hb hw28_
  have Iy := Hi iy
  clear iy
  have Iz := Hi iz
  clear iz
  obtain ⟨w87, hw, xy, hb⟩ := nb4 w86 ny Ay cy ly nz Az cz lz
  refine gA01qsp ?_
  clear hw
  intros
  replace x0 := x0.below hb
  replace x1 := x1.below hb
  replace xq := xq.below hb
  replace xs := xs.below hb
  replace xp := xp.below hb
  have hw30_ := bt hw29_ hb
  have Bhw30_ := Hi hb
  clear hb hw29_
  refine (sane2 _ (HTn.out.below hw30_)).mono ?_
  rintro e1 w88 ⟨rfl, hb⟩
  replace x0 := x0.below hb
  replace x1 := x1.below hb
  replace xq := xq.below hb
  replace xs := xs.below hb
  replace xp := xp.below hb
  replace xy := xy.below hb
  have hw31_ := bt hw30_ hb
  have Bhw31_ := Hi hb
  clear hb hw30_
  obtain ⟨Cp0, Cp1, Cp2, Cp3⟩ := xp.cs
  obtain ⟨Cy0, Cy1, Cy2, Cy3⟩ := xy.cs
  go_wp2_with fail
  refine (RQSame_iv Ip.out.b Iv.out.b Iy.out.b Iz.out.b).mono ?_
  rintro e w89 ⟨rfl, hb⟩
  clear Cp0 Cp1 Cp2 Cp3 Cy0 Cy1 Cy2 Cy3
  replace x0 := x0.below hb
  replace x1 := x1.below hb
  replace xq := xq.below hb
  replace xs := xs.below hb
  replace xp := xp.below hb
  replace xy := xy.below hb
  have hw32_ := bt hw31_ hb
  have Bhw32_ := Hi hb
  clear hb hw31_
  go_wp2_with fail
  go_ret
  exact ⟨rfl, hw32_⟩
 ·have HS : KC kb e := by first | exact kc1 (by assumption) | exact kc2 (by assumption) | exact kc3 (by assumption) (by assumption) | exact kc4 (by assumption)
  obtain ⟨P2, Q2, er2, hp⟩ := pows_both H1.out H2.out HC1.out HE.out (by rw [← HKB.out]; exact HS)
  have HP := Hi hp
  clear hp
  refine (HP.out.1 _ hw11_).mono ?_
  rintro e w90 ⟨np, Ap, cp, lp, nv, Av, cv, lv, rfl, ip, iv, hb⟩
  replace x0 := x0.below hb
  replace x1 := x1.below hb
  replace xq := xq.below hb
  replace xs := xs.below hb
  have hw33_ := bt hw11_ hb
  have Bhw33_ := Hi hb
  clear hb hw11_
  have Ip := Hi ip
  clear ip
  have Iv := Hi iv
  clear iv
  obtain ⟨w91, hw, xp, hb⟩ := nb4 w90 np Ap cp lp nv Av cv lv
  refine gA01qs ?_
  clear hw
  intros
  replace x0 := x0.below hb
  replace x1 := x1.below hb
  replace xq := xq.below hb
  replace xs := xs.below hb
  have hw34_ := bt hw33_ hb
  have Bhw34_ := Hi hb
  clear hb hw33_
  refine (HP.out.2 _ hw34_).mono ?_
  rintro e w92 ⟨ny, Ay, cy, ly, nz, Az, cz, lz, rfl, iy, iz, hb⟩
  replace x0 := x0.below hb
  replace x1 := x1.below hb
  replace xq := xq.below hb
  replace xs := xs.below hb
  replace xp := xp.below hb
  have hw35_ := bt hw34_ hb
  have Bhw35_ := Hi hb
  clear hb hw34_
  have Iy := Hi iy
  clear iy
  have Iz := Hi iz
  clear iz
  obtain ⟨w93, hw, xy, hb⟩ := nb4 w92 ny Ay cy ly nz Az cz lz
  refine gA01qsp ?_
  clear hw
  intros
  replace x0 := x0.below hb
  replace x1 := x1.below hb
  replace xq := xq.below hb
  replace xs := xs.below hb
  replace xp := xp.below hb
  have hw36_ := bt hw35_ hb
  have Bhw36_ := Hi hb
  clear hb hw35_
  refine (sane2 _ (HTn.out.below hw36_)).mono ?_
  rintro e1 w94 ⟨rfl, hb⟩
  replace x0 := x0.below hb
  replace x1 := x1.below hb
  replace xq := xq.below hb
  replace xs := xs.below hb
  replace xp := xp.below hb
  replace xy := xy.below hb
  have hw37_ := bt hw36_ hb
  have Bhw37_ := Hi hb
  clear hb hw36_
  obtain ⟨Cp0, Cp1, Cp2, Cp3⟩ := xp.cs
  obtain ⟨Cy0, Cy1, Cy2, Cy3⟩ := xy.cs
  go_wp2_with fail
  refine (RQSame_iv Ip.out.b Iv.out.b Iy.out.b Iz.out.b).mono ?_
  rintro e w95 ⟨rfl, hb⟩
  clear Cp0 Cp1 Cp2 Cp3 Cy0 Cy1 Cy2 Cy3
  replace x0 := x0.below hb
  replace x1 := x1.below hb
  replace xq := xq.below hb
  replace xs := xs.below hb
  replace xp := xp.below hb
  replace xy := xy.below hb
  have hw38_ := bt hw37_ hb
  have Bhw38_ := Hi hb
  clear hb hw37_
  go_wp2_with fail
  go_ret
  exact ⟨rfl, hw38_⟩
 ·have HS : KC kb e := by first | exact kc1 (by assumption) | exact kc2 (by assumption) | exact kc3 (by assumption) (by assumption) | exact kc4 (by assumption)
  obtain ⟨P2, Q2, er2, hp⟩ := pows_both H1.out H2.out HC1.out HE.out (by rw [← HKB.out]; exact HS)
  have HP := Hi hp
  clear hp
  refine (HP.out.1 _ hw11_).mono ?_
  rintro e w96 ⟨np, Ap, cp, lp, nv, Av, cv, lv, rfl, ip, iv, hb⟩
  replace x0 := x0.below hb
  replace x1 := x1.below hb
  replace xq := xq.below hb
  replace xs := xs.below hb
  have hw39_ := bt hw11_ hb
  have Bhw39_ := Hi hb
  clear hb hw11_
  have Ip := Hi ip
  clear ip
  have Iv := Hi iv
  clear iv
  obtain ⟨w97, hw, xp, hb⟩ := nb4 w96 np Ap cp lp nv Av cv lv
  refine gA01qs ?_
  clear hw
  intros
  replace x0 := x0.below hb
  replace x1 := x1.below hb
  replace xq := xq.below hb
  replace xs := xs.below hb
  have hw40_ := bt hw39_ hb
  have Bhw40_ := Hi hb
  clear hb hw39_
  refine (HP.out.2 _ hw40_).mono ?_
  rintro e w98 ⟨ny, Ay, cy, ly, nz, Az, cz, lz, rfl, iy, iz, hb⟩
  replace x0 := x0.below hb
  replace x1 := x1.below hb
  replace xq := xq.below hb
  replace xs := xs.below hb
  replace xp := xp.below hb
  have hw41_ := bt hw40_ hb
  have Bhw41_ := Hi hb
  clear hb hw40_
  have Iy := Hi iy
  clear iy
  have Iz := Hi iz
  clear iz
  obtain ⟨w99, hw, xy, hb⟩ := nb4 w98 ny Ay cy ly nz Az cz lz
  refine gA01qsp ?_
  clear hw
  intros
  replace x0 := x0.below hb
  replace x1 := x1.below hb
  replace xq := xq.below hb
  replace xs := xs.below hb
  replace xp := xp.below hb
  have hw42_ := bt hw41_ hb
  have Bhw42_ := Hi hb
  clear hb hw41_
  refine (sane2 _ (HTn.out.below hw42_)).mono ?_
  rintro e1 w100 ⟨rfl, hb⟩
  replace x0 := x0.below hb
  replace x1 := x1.below hb
  replace xq := xq.below hb
  replace xs := xs.below hb
  replace xp := xp.below hb
  replace xy := xy.below hb
  have hw43_ := bt hw42_ hb
  have Bhw43_ := Hi hb
  clear hb hw42_
  obtain ⟨Cp0, Cp1, Cp2, Cp3⟩ := xp.cs
  obtain ⟨Cy0, Cy1, Cy2, Cy3⟩ := xy.cs
  go_wp2_with fail
  refine (RQSame_iv Ip.out.b Iv.out.b Iy.out.b Iz.out.b).mono ?_
  rintro e w101 ⟨rfl, hb⟩
  clear Cp0 Cp1 Cp2 Cp3 Cy0 Cy1 Cy2 Cy3
  replace x0 := x0.below hb
  replace x1 := x1.below hb
  replace xq := xq.below hb
  replace xs := xs.below hb
  replace xp := xp.below hb
  replace xy := xy.below hb
  have hw44_ := bt hw43_ hb
  have Bhw44_ := Hi hb
  clear hb hw43_
  go_wp2_with fail
  go_ret
  exact ⟨rfl, hw44_⟩
open Go.RowKit Go.Shelf
theorem RatComputes_walk (w : World) {n m : Bool} {A B : Option Addr} {c d : Nat} {l k : List Nat} {n' m' : Bool} {A' B' : Option Addr} {c' d' : Nat} {l' k' : List Nat} {e : Int} (hA : WS w A l) (hB : WS w B k) (hA' : WS w A' l') (hB' : WS w B' k') (hL : l.length ≤ c ∧ k.length ≤ d ∧ l'.length ≤ c' ∧ k'.length ≤ d') (he : -9223372036854775808 ≤ e ∧ e ≤ 9223372036854775807) (hT : Tens w) :
  Calls Tryz.prog 5 #[.agg #[.bool n, .slice A l.length c, .bool m, .slice B k.length d], .agg #[.bool n', .slice A' l'.length c', .bool m', .slice B' k'.length d'], .int .i64 e] w fun e w' => e = .returned (.bool true) ∧ Below w.heap.size w w' := by
 cases h1 : (decide (l.length ≤ 12) && decide (k.length ≤ 12) && isQ n l m k) with
 | false => exact RatComputes_n1 hT hA hB hA' hB' hL h1
 | true =>
  cases h2 : (decide (l'.length ≤ 12) && decide (k'.length ≤ 12) && isQ n' l' m' k') with
  | false => exact RatComputes_n2 hT hA hB hA' hB' hL h1 h2
  | true =>
   obtain ⟨a1, a2, a3, a4, a5⟩ := small_can h1
   obtain ⟨b1, b2, b3, b4, b5⟩ := small_can h2
   exact RatComputes_m ⟨hL.1, hA, a3, rfl, by omega⟩ ⟨hL.2.1, hB, a4, rfl, by omega⟩ ⟨hL.2.2.1, hA', b3, rfl, by omega⟩ ⟨hL.2.2.2, hB', b4, rfl, by omega⟩ he hT a5 b5 h1 h2 hL
    ⟨lt_le (lt_val hA rfl) (by omega), lt_le (lt_val hB rfl) (by omega), lt_le (lt_val hA' rfl) (by omega), lt_le (lt_val hB' rfl) (by omega)⟩
end Go.Proofs.YtgljdfblgpdaaaaGreatDoor
