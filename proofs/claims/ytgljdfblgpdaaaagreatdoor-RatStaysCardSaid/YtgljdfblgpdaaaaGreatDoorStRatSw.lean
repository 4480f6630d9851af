import Derived.Maps.AppendAt
import Derived.Test.YtgljdfblgpdaaaaGreatDoorPbSanA
import Derived.Test.YtgljdfblgpdaaaaGreatDoorStRatSt
import Derived.Test.YtgljdfblgpdaaaaGreatDoorStRatL
import Derived.Test.YtgljdfblgpdaaaaGreatDoorStRatN
import Derived.Test.YtgljdfblgpdaaaaGreatDoorStRefY
set_option linter.unusedSimpArgs false
set_option linter.unusedVariables false
set_option maxRecDepth 100000
set_option maxHeartbeats 4000000
namespace Go.Proofs.YtgljdfblgpdaaaaGreatDoor
open Go.RowKit Go.Shelf
structure SimQ (q r s : Rat) : Prop where
 lo : q ≤ s
 hi : s ≤ r
 least : ∀ c : Rat, q ≤ c → c ≤ r → s.den ≤ c.den ∧ s.num.natAbs ≤ c.num.natAbs
theorem le_rat {q r : Rat} : q ≤ r ↔ q.num * r.den ≤ r.num * q.den := Rat.le_iff q r
theorem num_pos {q : Rat} : 0 < q.num ↔ 0 < q := by rw [Rat.lt_iff]; simp
theorem num_neg {q : Rat} : q.num < 0 ↔ q < 0 := by rw [Rat.lt_iff]; simp
theorem simQ_of {q r : Rat} {X Y : Int} (h0 : 0 < q) (hs : Simp q.num q.den r.num r.den X Y) : ∃ s : Rat, s.num = X ∧ (s.den : Int) = Y ∧ SimQ q r s := by
 obtain ⟨s, e1, e2⟩ := rat_of_can (x := X) (y := Y) ⟨hs.pq, hs.can⟩
 refine ⟨s, e1, e2, ?_, ?_, fun c hc1 hc2 => ?_⟩
 ·rw [le_rat, e1, e2]; exact hs.lo
 ·rw [le_rat, e1, e2]; exact hs.hi
 ·have hc0 : 0 < c.num := num_pos.2 (by grind)
  obtain ⟨g1, g2⟩ := hs.least c.num c.den hc0 (den_gt c) (le_rat.1 hc1) (le_rat.1 hc2)
  have := hs.pp
  omega
theorem simQ_neg {q r s : Rat} (h : SimQ (-r) (-q) s) : SimQ q r (-s) := by
 have h1 := h.lo
 have h2 := h.hi
 refine ⟨by grind, by grind, fun c hc1 hc2 => ?_⟩
 have := h.least (-c) (by grind) (by grind)
 rw [Rat.neg_num, Rat.neg_den, Int.natAbs_neg] at *
 exact this
def RQN (w : World) (er : Int) (e : Ending) (w' : World) : Prop := ∃ a : QW, e = .returned (.tuple #[.agg #[.bool a.n, .slice a.A a.l.length a.c, .bool a.m, .slice a.B a.k.length a.d], .int .i64 er]) ∧ Below w.heap.size w w'
section
variable {M N i j : Nat} {W W' w w' : World} {a b : QW} {q r : Rat} {e : Ending}
theorem QSim_t (hM : M ≤ 10) (h : QV M w a q) (h2 : QV M w b r) (hle : q ≤ r) : Calls Tryz.prog 60 #[.agg #[.bool a.n, .slice a.A a.l.length a.c, .bool a.m, .slice a.B a.k.length a.d], .agg #[.bool b.n, .slice b.A b.l.length b.c, .bool b.m, .slice b.B b.k.length b.d]] w fun e w' => ∃ s, SimQ q r s ∧ RQX M w s 0 e w' := by
 have L : Lt 10 q.num ∧ Lt 10 (q.den : Int) ∧ Lt 10 r.num ∧ Lt 10 (r.den : Int) := ⟨lt_le h.num.lt hM, lt_le h.den.lt hM, lt_le h2.num.lt hM, lt_le h2.den.lt hM⟩
 have hle' := le_rat.1 hle
 have fin : ∀ (e : Ending) (w' : World) (X Y : Int) (s : Rat), SimQ q r s → s.num = X → (s.den : Int) = Y → RQE w X Y 0 e w' → ∃ s, SimQ q r s ∧ RQX M w s 0 e w' := by
  intro e w' X Y s hs e1 e2 hr
  have g := hs.least q Rat.le_refl hle
  refine ⟨s, hs, hr.toQ e1 e2 ?_ ?_⟩
  ·rw [← e1]; exact Nat.lt_of_le_of_lt g.2 h.num.lt
  ·rw [← e2]; exact Nat.lt_of_le_of_lt (by omega) h.den.lt
 by_cases h0 : 0 < q.num
 ·refine (QSim_pos (h.i1 (by omega)) (h.i2 (by omega)) (h2.i1 (by omega)) (h2.i2 (by omega)) (can_rat q) (can_rat r) L ⟨hle', h0⟩).mono ?_
  rintro e w' ⟨X, Y, hs, hr⟩
  obtain ⟨s, e1, e2, hq⟩ := simQ_of (num_pos.1 h0) hs
  exact fin e w' X Y s hq e1 e2 hr
 ·by_cases h1 : r.num < 0
  ·refine (QSim_neg (h.i1 (by omega)) (h.i2 (by omega)) (h2.i1 (by omega)) (h2.i2 (by omega)) (can_rat q) (can_rat r) L ⟨hle', by omega, h1⟩).mono ?_
   rintro e w' ⟨X, Y, hs, hr⟩
   obtain ⟨s, e1, e2, hq⟩ := simQ_of (q := -r) (r := -q) (by have := num_neg.1 h1; grind) hs
   exact fin e w' (-X) Y (-s) (simQ_neg hq) (by rw [Rat.neg_num, e1]) e2 hr
  ·refine (QSim_zero (h.i1 (by omega)) (h.i2 (by omega)) (h2.i1 (by omega)) (h2.i2 (by omega)) (can_rat q) (can_rat r) L ⟨hle', by omega, by omega⟩).mono ?_
   intro e w' hr
   refine fin e w' 0 1 0 ⟨?_, ?_, fun c _ _ => ⟨?_, Nat.zero_le _⟩⟩ rfl rfl hr
   ·have := num_pos (q := q); grind
   ·have := num_neg (q := r); grind
   ·have := c.den_nz
    show 1 ≤ c.den
    omega
theorem QSim_f (hM : M ≤ 10) (h : QV M w a q) (h2 : QV M w b r) (hlt : r < q) : Calls Tryz.prog 60 #[.agg #[.bool a.n, .slice a.A a.l.length a.c, .bool a.m, .slice a.B a.k.length a.d], .agg #[.bool b.n, .slice b.A b.l.length b.c, .bool b.m, .slice b.B b.k.length b.d]] w (RQN w 4) := by
 refine (QSim_none (h.i1 (by omega)) (h.i2 (by omega)) (h2.i1 (by omega)) (h2.i2 (by omega)) (can_rat q) (can_rat r) ⟨lt_le h.num.lt hM, lt_le h.den.lt hM, lt_le h2.num.lt hM, lt_le h2.den.lt hM⟩ ((Rat.lt_iff r q).1 hlt)).mono ?_
 rintro e w' ⟨n, A, c, l, m, B, d, k, he, _, _, hb⟩
 exact ⟨⟨n, A, c, l, m, B, d, k⟩, he, hb⟩
theorem QV.four (h : QV M W a q) {p : Nat} {u v : Bool} {B C : Option Addr} {k d i e : Nat} (hb : Box4 W p (.bool u) (.slice B k d) (.bool v) (.slice C i e)) (x y s t : Value) :
  QV M ((((W.setCell ⟨p, 0, none⟩ x).setCell ⟨p, 1, none⟩ y).setCell ⟨p, 2, none⟩ s).setCell ⟨p, 3, none⟩ t) a q := ⟨h.num.four hb _ _ _ _, h.den.four hb _ _ _ _⟩
end
open Go.RowKit Go.Shelf
variable {e i : Nat} {l : List Nat} {w : World} {z : Int}
theorem BB_pow (i e : Nat) : BB i ^ e = BB (i * e) := by rw [BB_two, BB_two, ← Nat.pow_mul, Nat.mul_assoc]
theorem lt_powz (h : Lt i z) : Lt (i * e + 1) (z ^ e) := by
 unfold Lt at *
 rw [Int.natAbs_pow]
 refine Nat.lt_of_le_of_lt (Nat.pow_le_pow_left (Nat.le_of_lt h) e) ?_
 rw [BB_pow, BB_two, BB_two]
 exact Nat.pow_lt_pow_right (by decide) (by omega)
theorem bl_words (hw : ∀ x ∈ l, x < 4294967296) (ht : Top l) : bl l ≤ 32 * l.length := by
 rcases Nat.eq_zero_or_pos l.length with h0 | h0
 ·unfold bl; rw [if_pos h0]; omega
 ·exact (bl_bound hw ht h0).2.2.1
theorem fit_words (hw : ∀ x ∈ l, x < 4294967296) (ht : Top l) (hl : l.length ≤ i) (he : e ≤ 64) (hie : i * e ≤ 600) : Fit l e := by
 have hb := bl_words hw ht
 refine ⟨by omega, fun j hj => ?_, fun hl => ?_⟩
 ·have h1 : val l ≤ BB i := Nat.le_of_lt (Nat.lt_of_lt_of_le (val_lt hw) (BB_mono hl))
  rcases Nat.eq_zero_or_pos j with h0 | h0
  ·subst h0; rw [Nat.pow_zero]; exact Nat.lt_of_lt_of_le (show 1 < BB 1 by unfold BB; decide) (BB_mono (by decide))
  ·have h2 : val l ^ j < BB i ^ j := Nat.pow_lt_pow_left (Nat.lt_of_lt_of_le (val_lt hw) (BB_mono hl)) (by omega)
   rw [BB_pow] at h2
   exact Nat.lt_of_lt_of_le h2 (BB_mono (Nat.le_trans (Nat.mul_le_mul_left i hj) hie))
 ·have h3 : e ≤ 1048576 / bl l := by
   rw [Nat.le_div_iff_mul_le (by omega)]
   have h4 : e * bl l ≤ e * (32 * i) := Nat.mul_le_mul_left e (by omega)
   have h5 : e * (32 * i) = 32 * (i * e) := by rw [Nat.mul_left_comm, Nat.mul_comm e i]
   omega
  omega
theorem npow_one (n : Nat) : (1 : Rat) ^ n = 1 := by
 induction n with
 | zero => exact Rat.pow_zero 1
 | succ n ih => rw [Rat.pow_succ, ih]; exact Rat.mul_one 1
theorem zpow_one' (z : Int) : (1 : Rat) ^ z = 1 := by
 obtain ⟨a, rfl | rfl⟩ := z.eq_nat_or_neg
 ·rw [Rat.zpow_natCast, npow_one]
 ·rw [Rat.zpow_neg, Rat.zpow_natCast, npow_one]; exact Rat.inv_eq_of_mul_eq_one (Rat.mul_one 1)
theorem zpow_neg_one (z : Int) : (-1 : Rat) ^ z = if z % 2 = 0 then 1 else -1 := by
 have h1 : (-1 : Rat) ≠ 0 := by decide
 have h2 : (-1 : Rat) ^ (2 : Int) = 1 := by rw [show (2 : Int) = ((2 : Nat) : Int) from rfl, Rat.zpow_natCast]; decide +kernel
 have h3 := Int.mul_ediv_add_emod z 2
 rcases Int.emod_two_eq z with h | h
 ·rw [if_pos h]
  rw [show z = 2 * (z / 2) by omega, zpow_mul', h2, zpow_one']
 ·rw [if_neg (by omega)]
  rw [show z = 2 * (z / 2) + 1 by omega, Rat.zpow_add h1, zpow_mul', h2, zpow_one', Rat.zpow_one, Rat.one_mul]
theorem unit_rat {q : Rat} (h1 : q.num.natAbs ≤ 1) (h2 : q.den ≤ 1) (h0 : q ≠ 0) : q = 1 ∨ q = -1 := by
 have h3 : q.num ≠ 0 := fun h => h0 (Rat.num_eq_zero.1 h)
 have h4 := q.den_nz
 have h5 : q.num = 1 ∨ q.num = -1 := by omega
 rcases h5 with h5 | h5
 ·exact .inl (Rat.ext h5 (by show q.den = 1; omega))
 ·exact .inr (Rat.ext h5 (by show q.den = 1; omega))
theorem inv_pow_pos {q : Rat} (h : 0 < q.num) (e : Nat) : (q ^ (-(e : Int))).num = (q.den : Int) ^ e ∧ ((q ^ (-(e : Int))).den : Int) = q.num ^ e := by
 rw [Rat.zpow_neg, Rat.zpow_natCast, ← inv_npow, Rat.num_pow, Rat.den_pow, Rat.num_inv, Rat.den_inv, Int.sign_eq_one_of_pos h, if_neg (by omega)]
 refine ⟨by rw [Int.one_mul], ?_⟩
 rw [Int.natCast_pow, show ((q.num.natAbs : Nat) : Int) = q.num by omega]
theorem inv_pow_neg {q : Rat} (h : q.num < 0) (e : Nat) : (q ^ (-(e : Int))).num = (-(q.den : Int)) ^ e ∧ ((q ^ (-(e : Int))).den : Int) = (-q.num) ^ e := by
 rw [Rat.zpow_neg, Rat.zpow_natCast, ← inv_npow, Rat.num_pow, Rat.den_pow, Rat.num_inv, Rat.den_inv, Int.sign_eq_neg_one_of_neg h, if_neg (by omega)]
 refine ⟨by rw [Int.neg_one_mul], ?_⟩
 rw [Int.natCast_pow, show ((q.num.natAbs : Nat) : Int) = -q.num by omega]
theorem lt_mone : Lt 1 (-1) := lt_one (by decide)
theorem QPow_q {a : QW} {q : Rat} (h : QV i w a q) (hq : q ≠ 0) (hz : z.natAbs ≤ 64) (hi : i * z.natAbs ≤ 600) (hi2 : i ≤ 120) :
  Calls Tryz.prog 55 #[.agg #[.bool a.n, .slice a.A a.l.length a.c, .bool a.m, .slice a.B a.k.length a.d], .int .i64 z] w (RQX (i * z.natAbs + 1) w (q ^ z) 0) := by
 have hx : q.num ≠ 0 := fun h => hq (Rat.num_eq_zero.1 h)
 have I1 := h.i1 hi2
 have I2 := h.i2 hi2
 have T1 := isB_top h.num.can
 have T2 := isB_top h.den.can
 have W1 := h.num.ws.1
 have W2 := h.den.ws.1
 by_cases hz0 : z = 0
 ·subst hz0
  exact (QPow_n0 I1 I2).mono fun e w' hr => hr.toQ (by rw [Rat.zpow_zero]; rfl) (by rw [Rat.zpow_zero]; rfl) (lt_le (lt_one (by decide)) (by omega)) (lt_le (lt_one (by decide)) (by omega))
 ·have hn : z ≠ 0 ∧ -9223372036854775808 ≤ z ∧ z ≤ 9223372036854775807 := ⟨hz0, by omega, by omega⟩
  obtain ⟨e, he⟩ : ∃ e, e = z.natAbs := ⟨_, rfl⟩
  rw [← he] at hz hi ⊢
  have f1 := fit_words W1 T1 h.num.len hz hi
  have f2 := fit_words W2 T2 h.den.len hz hi
  have p1 : Lt (i * e + 1) (q.num ^ e) := lt_powz h.num.lt
  have p2 : Lt (i * e + 1) ((q.den : Int) ^ e) := lt_powz h.den.lt
  have p3 : Lt (i * e + 1) ((-q.num) ^ e) := lt_powz (lt_neg h.num.lt)
  have p4 : Lt (i * e + 1) ((-(q.den : Int)) ^ e) := lt_powz (lt_neg h.den.lt)
  by_cases hk : max (bl a.l) (bl a.k) ≤ 1
  ·have v1 := bl_small W1 T1 (by omega)
   have v2 := bl_small W2 T2 (by omega)
   rw [val_abs h.num.val] at v1
   rw [val_abs h.den.val] at v2
   have F : ∀ e, e ≤ 1 → Fit a.l e ∧ Fit a.k e := fun t ht => ⟨fit_words W1 T1 h.num.len (by omega) (by have : i * t ≤ i * 1 := Nat.mul_le_mul_left i ht; omega), fit_words W2 T2 h.den.len (by omega) (by have : i * t ≤ i * 1 := Nat.mul_le_mul_left i ht; omega)⟩
   have L1 : Lt (i * e + 1) 1 := lt_le (lt_one (by decide)) (by omega)
   have L2 : Lt (i * e + 1) (-1) := lt_le lt_mone (by omega)
   have ht : z.tmod 2 = 0 ∨ z.tmod 2 = 1 ∨ z.tmod 2 = -1 := by
    rcases Int.lt_or_le z 0 with h0 | h0
    ·have := Int.tmod_two_eq z; omega
    ·have := Int.tmod_two_eq z; omega
   have hp := zpow_neg_one z
   have htd := Int.mul_tdiv_add_tmod z 2
   rcases unit_rat v1 (by omega) hq with hu | hu
   ·subst hu
    have e1 : ((1 : Rat) ^ z).num = 1 ∧ (((1 : Rat) ^ z).den : Int) = 1 := by rw [zpow_one']; exact ⟨rfl, rfl⟩
    rcases ht with ht | ht | ht
    ·exact (QPow_one I1 I2 hx hn hk (F 0 (by decide)).1 (F 0 (by decide)).2 ht).mono fun e w' hr => hr.toQ e1.1 e1.2 L1 L1
    ·exact (QPow_one I1 I2 hx hn hk (F 1 (by decide)).1 (F 1 (by decide)).2 ht).mono fun e w' hr => hr.toQ e1.1 e1.2 L1 L1
    ·exact (QPow_onep I1 I2 hx hn hk (F 1 (by decide)).1 (F 1 (by decide)).2 ht (by decide) (by decide)).mono fun e w' hr => hr.toQ e1.1 e1.2 L1 L1
   ·subst hu
    rcases ht with ht | ht | ht
    ·rw [if_pos (by omega)] at hp
     have e1 : ((-1 : Rat) ^ z).num = 1 ∧ (((-1 : Rat) ^ z).den : Int) = 1 := by rw [hp]; exact ⟨rfl, rfl⟩
     exact (QPow_one I1 I2 hx hn hk (F 0 (by decide)).1 (F 0 (by decide)).2 ht).mono fun e w' hr => hr.toQ e1.1 e1.2 L1 L1
    ·rw [if_neg (by omega)] at hp
     have e1 : ((-1 : Rat) ^ z).num = -1 ∧ (((-1 : Rat) ^ z).den : Int) = 1 := by rw [hp]; exact ⟨rfl, rfl⟩
     exact (QPow_one I1 I2 hx hn hk (F 1 (by decide)).1 (F 1 (by decide)).2 ht).mono fun e w' hr => hr.toQ e1.1 e1.2 L2 L1
    ·rw [if_neg (by omega)] at hp
     have e1 : ((-1 : Rat) ^ z).num = -1 ∧ (((-1 : Rat) ^ z).den : Int) = 1 := by rw [hp]; exact ⟨rfl, rfl⟩
     exact (QPow_onen I1 I2 hx hn hk (F 1 (by decide)).1 (F 1 (by decide)).2 ht (by decide) (by decide)).mono fun e w' hr => hr.toQ e1.1 e1.2 L2 L1
  ·have hlim : z ≤ (1048576 / max (bl a.l) (bl a.k) : Nat) ∧ -((1048576 / max (bl a.l) (bl a.k) : Nat) : Int) ≤ z := by
    have b1 := bl_words W1 T1
    have b2 := bl_words W2 T2
    have b3 := h.num.len
    have b4 := h.den.len
    have h1 : e ≤ 1048576 / max (bl a.l) (bl a.k) := by
     rw [Nat.le_div_iff_mul_le (by omega)]
     have h4 : e * max (bl a.l) (bl a.k) ≤ e * (32 * i) := Nat.mul_le_mul_left e (by omega)
     have h5 : e * (32 * i) = 32 * (i * e) := by rw [Nat.mul_left_comm, Nat.mul_comm e i]
     omega
    omega
   rcases Int.lt_trichotomy z 0 with hs | hs | hs
   ·have hze : z = -(e : Int) := by omega
    rcases Int.lt_trichotomy q.num 0 with hx1 | hx1 | hx1
    ·have r := inv_pow_neg hx1 e
     rw [← hze] at r
     exact (QPow_bign I1 I2 hx hn (by omega) f1 f2 hlim hze hx1).mono fun e w' hr => hr.toQ r.1 r.2 p4 p3
    ·exact absurd hx1 hx
    ·have r := inv_pow_pos hx1 e
     rw [← hze] at r
     exact (QPow_bigp I1 I2 hx hn (by omega) f1 f2 hlim hze hx1).mono fun e w' hr => hr.toQ r.1 r.2 p2 p1
   ·exact absurd hs hz0
   ·have hze : z = (e : Int) := by omega
    exact (QPow_big I1 I2 hx hn (by omega) f1 f2 hlim hze).mono fun e w' hr => hr.toQ (by rw [hze, Rat.zpow_natCast, Rat.num_pow]) (by rw [hze, Rat.zpow_natCast, Rat.den_pow, Int.natCast_pow]) p1 p2
theorem RQX.mono {M N : Nat} {q : Rat} {er : Int} {e : Ending} {w' : World} (h : RQX M w q er e w') (hM : M ≤ N) : RQX N w q er e w' := by
 obtain ⟨a, he, hq, hb⟩ := h
 exact ⟨a, he, hq.mono hM, hb⟩
theorem QPow_m (N : Nat) {a : QW} {q : Rat} (h : QV i w a q) (hq : q ≠ 0) (hz : z.natAbs ≤ N) (hN : N ≤ 64) (hi : i * N ≤ 600) (hi2 : i ≤ 120) :
  Calls Tryz.prog 55 #[.agg #[.bool a.n, .slice a.A a.l.length a.c, .bool a.m, .slice a.B a.k.length a.d], .int .i64 z] w (RQX (i * N + 1) w (q ^ z) 0) := by
 have h1 : i * z.natAbs ≤ i * N := Nat.mul_le_mul_left i hz
 exact (QPow_q h hq (by omega) (by omega) hi2).mono fun e w' hr => hr.mono (by omega)
open Go.RowKit Go.Shelf
variable {er x y : Int}
def RK (w : World) (e : Ending) (w' : World) : Prop := (∃ v, e = .returned v) ∧ Below w.heap.size w w'
section
variable {w w' : World} {a b : QW} {q r : Rat} {e : Ending} {M : Nat}
theorem RQ.rk (h : RQ M w q e w') : RK w e w' := by obtain ⟨x, he, _, hb⟩ := h; exact ⟨⟨_, he⟩, hb⟩
theorem RQX.rk (h : RQX M w q er e w') : RK w e w' := by obtain ⟨x, he, _, hb⟩ := h; exact ⟨⟨_, he⟩, hb⟩
theorem RQE.rk (h : RQE w x y er e w') : RK w e w' := by obtain ⟨n, A, c, l, m, B, d, k, he, _, _, hb⟩ := h; exact ⟨⟨_, he⟩, hb⟩
theorem RIQ.rk (h : RIQ w x y e w') : RK w e w' := by obtain ⟨n, A, c, l, m, B, d, k, he, _, _, hb⟩ := h; exact ⟨⟨_, he⟩, hb⟩
theorem rk_v {v : Value} (h : e = .returned v ∧ Below w.heap.size w w') : RK w e w' := ⟨⟨_, h.1⟩, h.2⟩
theorem K_Is (h : QV 10 w a q) : Calls Tryz.prog 35 #[.agg #[.bool a.n, .slice a.A a.l.length a.c, .bool a.m, .slice a.B a.k.length a.d]] w (RK w) :=
 (QIs_iv (h.i1 (by decide)) (h.i2 (by decide)) (can_rat q)).mono fun _ _ hr => rk_v hr
theorem K_Make (h : QV 10 w a q) (h2 : QV 10 w b r) : Calls Tryz.prog 29 #[.agg #[.bool a.n, .slice a.A a.l.length a.c], .agg #[.bool b.m, .slice b.B b.k.length b.d]] w (RK w) :=
 (Make_pos (h.i1 (by decide)) (h2.i2 (by decide)) (den_gt r)).mono fun _ _ hr => hr.rk
theorem K_Whole (h : QV 10 w a q) : Calls Tryz.prog 33 #[.agg #[.bool a.n, .slice a.A a.l.length a.c]] w (RK w) :=
 (QWhole_iv (h.i1 (by decide))).mono fun _ _ hr => hr.rk
theorem K_Sign (h : QV 10 w a q) : Calls Tryz.prog 40 #[.agg #[.bool a.n, .slice a.A a.l.length a.c, .bool a.m, .slice a.B a.k.length a.d]] w (RK w) :=
 (QSign_q h (by decide)).mono fun _ _ hr => rk_v hr
theorem K_Cmp (h : QV 10 w a q) (h2 : QV 10 w b r) : Calls Tryz.prog 42 #[.agg #[.bool a.n, .slice a.A a.l.length a.c, .bool a.m, .slice a.B a.k.length a.d], .agg #[.bool b.n, .slice b.A b.l.length b.c, .bool b.m, .slice b.B b.k.length b.d]] w (RK w) :=
 (QCmp_q h h2 (by decide) (by decide)).mono fun _ _ hr => rk_v hr
theorem K_Neg (h : QV 10 w a q) : Calls Tryz.prog 44 #[.agg #[.bool a.n, .slice a.A a.l.length a.c, .bool a.m, .slice a.B a.k.length a.d]] w (RK w) :=
 (QNeg_q h (by decide)).mono fun _ _ hr => hr.rk
theorem K_Add (h : QV 10 w a q) (h2 : QV 10 w b r) : Calls Tryz.prog 48 #[.agg #[.bool a.n, .slice a.A a.l.length a.c, .bool a.m, .slice a.B a.k.length a.d], .agg #[.bool b.n, .slice b.A b.l.length b.c, .bool b.m, .slice b.B b.k.length b.d]] w (RK w) :=
 (QAdd_q h h2 (by decide) (by decide)).mono fun _ _ hr => hr.rk
theorem K_Sub (h : QV 10 w a q) (h2 : QV 10 w b r) : Calls Tryz.prog 50 #[.agg #[.bool a.n, .slice a.A a.l.length a.c, .bool a.m, .slice a.B a.k.length a.d], .agg #[.bool b.n, .slice b.A b.l.length b.c, .bool b.m, .slice b.B b.k.length b.d]] w (RK w) :=
 (QSub_q h h2 (by decide) (by decide)).mono fun _ _ hr => hr.rk
theorem K_Mul (h : QV 10 w a q) (h2 : QV 10 w b r) : Calls Tryz.prog 52 #[.agg #[.bool a.n, .slice a.A a.l.length a.c, .bool a.m, .slice a.B a.k.length a.d], .agg #[.bool b.n, .slice b.A b.l.length b.c, .bool b.m, .slice b.B b.k.length b.d]] w (RK w) :=
 (QMul_q h h2 (by decide) (by decide)).mono fun _ _ hr => hr.rk
theorem K_Div (h : QV 10 w a q) (h2 : QV 10 w b r) : Calls Tryz.prog 38 #[.agg #[.bool a.n, .slice a.A a.l.length a.c, .bool a.m, .slice a.B a.k.length a.d], .agg #[.bool b.n, .slice b.A b.l.length b.c, .bool b.m, .slice b.B b.k.length b.d]] w (RK w) := by
 by_cases h0 : r = 0
 ·exact (QDiv_zero (h.i1 (by decide)) (h.i2 (by decide)) (h2.i1 (by decide)) (h2.i2 (by decide)) (can_rat q) (can_rat r) (h.l1 (by decide)) (h.l2 (by decide)) (h2.l1 (by decide)) (h2.l2 (by decide)) (by rw [h0]; rfl)).mono fun _ _ hr => hr.rk
 ·exact (QDiv_q h h2 (by decide) (by decide) h0).mono fun _ _ hr => hr.rk
theorem K_Pow (h : QV 10 w a q) {z : Int} (hz : z.natAbs ≤ 8) : Calls Tryz.prog 55 #[.agg #[.bool a.n, .slice a.A a.l.length a.c, .bool a.m, .slice a.B a.k.length a.d], .int .i64 z] w (RK w) := by
 by_cases h0 : q = 0
 ·have hx : q.num = 0 := by rw [h0]; rfl
  rcases Int.lt_trichotomy z 0 with h1 | h1 | h1
  ·exact (QPow_zn (h.i1 (by decide)) (h.i2 (by decide)) hx h1).mono fun _ _ hr => hr.rk
  ·subst h1; exact (QPow_n0 (h.i1 (by decide)) (h.i2 (by decide))).mono fun _ _ hr => hr.rk
  ·exact (QPow_zp (h.i1 (by decide)) (h.i2 (by decide)) hx h1).mono fun _ _ hr => hr.rk
 ·exact (QPow_m 8 h h0 hz (by decide) (by decide) (by decide)).mono fun _ _ hr => hr.rk
theorem K_Floor (h : QV 10 w a q) : Calls Tryz.prog 46 #[.agg #[.bool a.n, .slice a.A a.l.length a.c, .bool a.m, .slice a.B a.k.length a.d]] w (RK w) :=
 (QFloor_q h (by decide)).mono fun _ _ hr => by obtain ⟨x, he, _, hb⟩ := hr; exact ⟨⟨_, he⟩, hb⟩
theorem K_Sim (h : QV 10 w a q) (h2 : QV 10 w b r) : Calls Tryz.prog 60 #[.agg #[.bool a.n, .slice a.A a.l.length a.c, .bool a.m, .slice a.B a.k.length a.d], .agg #[.bool b.n, .slice b.A b.l.length b.c, .bool b.m, .slice b.B b.k.length b.d]] w (RK w) := by
 by_cases hle : q ≤ r
 ·exact (QSim_t (by decide) h h2 hle).mono fun _ _ hr => by obtain ⟨s, _, hx⟩ := hr; exact hx.rk
 ·exact (QSim_f (by decide) h h2 (Rat.not_le.1 hle)).mono fun _ _ hr => by obtain ⟨x, he, hb⟩ := hr; exact ⟨⟨_, he⟩, hb⟩
theorem K_Print (h : QV 10 w a q) (hT : Tens w) : Calls Tryz.prog 66 #[.agg #[.bool a.n, .slice a.A a.l.length a.c, .bool a.m, .slice a.B a.k.length a.d]] w (RK w) := by
 by_cases hy : (q.den : Int) = 1
 ·exact (QPrint_one (h.i1 (by decide)) (h.i2 (by decide)) hT hy).mono fun _ _ hr => by obtain ⟨s, he, _, hb⟩ := hr; exact ⟨⟨_, he⟩, hb⟩
 ·exact (QPrint_frac (h.i1 (by decide)) (h.i2 (by decide)) hT hy).mono fun _ _ hr => by obtain ⟨s, he, _, hb⟩ := hr; exact ⟨⟨_, he⟩, hb⟩
theorem K_Common {A : Option Addr} {c : Nat} {qs : List QW} (h : RL w A qs) (hl : qs.length ≤ 20) (hq : ∀ i, i < qs.length → ∃ q : Rat, QV 10 w (qs.getD i zq) q) : Calls Tryz.prog 57 #[.slice A qs.length c] w (RK w) := by
 obtain ⟨rs, hrl, hrs⟩ := list_pick (p := fun i q => QV 10 w (qs.getD i zq) q) 0 qs.length hq
 obtain ⟨zs, hzs⟩ : ∃ zs, zs = rs.map (fun q : Rat => (q.num, (q.den : Int))) := ⟨_, rfl⟩
 have hzl : zs.length = qs.length := by rw [hzs]; simp [hrl]
 have hzg : ∀ i, i < qs.length → zs.getD i (0, 0) = ((rs.getD i 0).num, ((rs.getD i 0).den : Int)) := fun i hi => by
  rw [hzs, List.getD_eq_getElem?_getD, List.getD_eq_getElem?_getD, List.getElem?_map, List.getElem?_eq_getElem (by omega)]; rfl
 have hql : QL w A zs := fun h0 => by
  obtain ⟨b, off, e, hbl, hq⟩ := h (by rintro rfl; exact h0 (List.eq_nil_of_length_eq_zero hzl))
  refine ⟨b, off, e, hbl, fun i hi => ?_⟩
  obtain ⟨e0, e1, e2, e3, s1, s2, s3, s4⟩ := hq i (by omega)
  rw [hzg i (by omega)]
  have hv := hrs i (by omega)
  exact ⟨_, _, _, _, _, _, _, _, e0, e1, e2, e3, hv.i1 (by decide), hv.i2 (by decide)⟩
 have r := Common_any w A c zs hql (by omega) (fun i hi => by
  rw [hzg i (by omega)]
  have hv := hrs i (by omega)
  exact ⟨can_rat _, hv.num.lt, hv.den.lt⟩)
 rw [hzl] at r
 exact r.mono fun _ _ hr => by obtain ⟨g, n, A, c, l, he, _, _, _, hb⟩ := hr; exact ⟨⟨_, he⟩, hb⟩
end
open Go Go.RowKit Go.Shelf
def backB (md : Region.Mode) (ops : Array Oper) : Bool := (List.range ops.size).all fun j => (ops[j]?).all fun o => o.after.all fun e => !Region.binds md e || decide (e.on < j)
theorem none_left {md : Region.Mode} {ops : Array Oper} {L : Array Bool} (hb : backB md ops = true) (hs : L.size = ops.size) (he : Region.ready md ops L = []) : ∀ j, j < ops.size → L.getD j true = true := by
 intro j
 induction j using Nat.strongRecOn with
 | _ j ih =>
  intro hj
  cases hl : L.getD j true with
  | true => rfl
  | false =>
   have h3 := List.all_eq_true.1 hb j (List.mem_range.2 hj)
   have h1 : ops[j]? = some ops[j] := Array.getElem?_eq_getElem hj
   rw [h1] at h3
   simp only [Option.all_some] at h3
   have hr : j ∈ Region.ready md ops L := mem_ready.2 ⟨hl, ops[j], h1, fun e he hb => by
    have h4 := Array.all_eq_true'.1 h3 e he
    simp only [hb, Bool.not_true, Bool.false_or, decide_eq_true_eq] at h4
    have h5 := ih e.on h4 (by omega)
    rw [Array.getD_eq_getD_getElem?, Array.getElem?_eq_getElem (by omega)] at h5 ⊢
    exact h5⟩
   rw [he] at hr
   cases hr
def bd0 (d : Bool) (v : QW) : Value := if d then .bool v.n else .bool false
def bd1 (d : Bool) (v : QW) : Value := if d then .slice v.A v.l.length v.c else .slice none 0 0
def bd2 (d : Bool) (v : QW) : Value := if d then .bool v.m else .bool false
def bd3 (d : Bool) (v : QW) : Value := if d then .slice v.B v.k.length v.d else .slice none 0 0
open Go Go.RowKit Go.Shelf
variable {A B C : Option Addr} {W w : World} {base c d e i k p : Nat} {t u : Bool} {v : Value}
def AllR (W : World) (v : Value) (qs : List QW) : Prop :=
 ∃ g cap, v = .slice (some ⟨g, 0, none⟩) qs.length cap ∧ ∀ i, i < qs.length → El4 W g (i * 4) (.bool (qs.getD i zq).n) (.slice (qs.getD i zq).A (qs.getD i zq).l.length (qs.getD i zq).c) (.bool (qs.getD i zq).m) (.slice (qs.getD i zq).B (qs.getD i zq).k.length (qs.getD i zq).d)
theorem AllR.of {qs : List QW} (h : W.ownsRow base 35 4 v qs.length (qs.flatMap qcells)) (h0 : 0 < qs.length) : AllR W v qs := by
 rcases h.2 with ⟨_, h1⟩ | ⟨g, cap, cur, rfl, hb, hg, _⟩
 ·omega
 ·refine ⟨g, cap, rfl, fun i hi => ?_⟩
  have hc := h.cells (g := g) rfl
  have hn : ∀ t u, t < 4 → (qcells (qs.getD i zq))[t]? = some u → W.cell? ⟨g, i * 4 + t, none⟩ = some u := fun t u ht hu => by
   have h2 := hc (i * 4 + t) u ((flat4 qs i t hi ht).trans hu)
   exact m113cf
  exact ⟨(h.lt g rfl).2, hn 0 _ (by decide) rfl, hn 1 _ (by decide) rfl, hn 2 _ (by decide) rfl, hn 3 _ (by decide) rfl⟩
theorem flat_len (qs : List QW) : (qs.flatMap qcells).length = qs.length * 4 := by
 induction qs with
 | nil => rfl
 | cons q qs ih => rw [List.flatMap_cons, List.length_append, ih, List.length_cons]; simp [qcells]; omega
theorem flat_one (qs : List QW) : ∀ u ∈ qs.flatMap qcells, u.oneCell' = true := by
 intro u hu
 obtain ⟨q, _, h⟩ := List.mem_flatMap.1 hu
 simp [qcells] at h
 rcases h with rfl | rfl | rfl | rfl <;> rfl
theorem RL.cells {ad : Addr} {qs : List QW} (h : RL W (some ad) qs) : ∀ (j : Nat) (u : Value), (qs.flatMap qcells)[j]? = some u → W.cell? (ad.add j) = some u := by
 intro j u hu
 have hj : j < qs.length * 4 := by
  rw [← flat_len]
  exact (List.getElem?_eq_some_iff.1 hu).1
 obtain ⟨b, off, e, _, hq⟩ := h (by rintro rfl; simp at hj)
 injection e with e
 subst e
 have hi : j / 4 < qs.length := by omega
 obtain ⟨e0, e1, e2, e3, _⟩ := hq (j / 4) hi
 have e := flat4 qs (j / 4) (j % 4) hi (Nat.mod_lt _ (by decide))
 rw [show j / 4 * 4 + j % 4 = j by omega, hu] at e
 have ea : (⟨b, off, none⟩ : Addr).add j = ⟨b, off + j, none⟩ := by unfold Addr.add; split <;> simp_all
 rw [ea]
 have h4 : j % 4 = 0 ∨ j % 4 = 1 ∨ j % 4 = 2 ∨ j % 4 = 3 := by omega
 rcases h4 with h4 | h4 | h4 | h4 <;> (rw [h4] at e; simp [qcells] at e; subst e)
 ·rw [show off + j = off + j / 4 * 4 by omega]; exact e0
 ·rw [show off + j = off + j / 4 * 4 + 1 by omega]; exact e1
 ·rw [show off + j = off + j / 4 * 4 + 2 by omega]; exact e2
 ·rw [show off + j = off + j / 4 * 4 + 3 by omega]; exact e3
theorem app_list (W : World) (ty : TypeId) (base n g cap : Nat) (xs : List QW) (hown : W.ownsRow base 35 4 (.slice (some ⟨g, 0, none⟩) n cap) n (xs.flatMap qcells)) {qs : List QW} (h : RL W A qs)
  (hby : (n + qs.length) * 64 ≤ 140737488355328) (hb : base ≤ W.heap.size) :
  ∃ v' w', (Builtin.append_ #[53, 53] ty #[.slice (some ⟨g, 0, none⟩) n cap, .slice A qs.length c]).run Tryz.prog W = .ok v' w' ∧ w'.ownsRow base 35 4 v' (n + qs.length) ((xs ++ qs).flatMap qcells) ∧ W.grownBy w' (some g) := by
 have ht : Tryz.prog.underlying 53 = some (.slice 35) := by kernel_rfl
 obtain ⟨i0, hi, hz, hs, hby0⟩ := info_parts info_Q
 rw [List.flatMap_append]
 cases A with
 | some ad =>
  obtain ⟨v', w', hr, h2, h3, _, _⟩ := run_append_own_at (P := Tryz.prog) W base 53 ty 35 i0 _ 4 64 ht hi hz hs hby0 rfl (by decide) _ n _ hown ad qs.length c (qs.flatMap qcells) (flat_len qs) h.cells (flat_one qs) (by simp only [maxLen]; omega) hby hb
  exact ⟨v', w', hr, h2, h3⟩
 | none =>
  have h0 : qs = [] := by
   cases qs with
   | nil => rfl
   | cons q r => obtain ⟨b, off, e, _⟩ := h (by simp); cases e
  subst h0
  have hn : n ≤ cap := by
   rcases hown.2 with ⟨e, _⟩ | ⟨g', cap', cur, e, _, _, h1, _⟩
   ·cases e
   ·injection e with _ _ e; omega
  refine ⟨_, W, ?_, by simpa using hown, World.grownBy.refl W _⟩
  simp [Builtin.append_, run_underlying ht, sizeOf, typeInfo, hi, Builtin.lenOf, Builtin.firstCells, hn, storeCells]
theorem wpl_append {ops : Array Oper} {rest : List Oper} {o : Oper} {a : Act} {Q : Exit → Act → World → Prop} (hgd : o.guard = none) (s x : Operand)
  (ho : o.op = .call { callee := .builtin .append, args := #[s, x], argTypes := #[53, 53] }) {v u : Value} (hs : a.eval s = v) (hx : a.eval x = u)
  (H : ∃ v' w', (Builtin.append_ #[53, 53] o.type #[v, u]).run Tryz.prog W = .ok v' w' ∧ wpList Tryz.prog ops Q rest (a.put o.dst v') w') : wpList Tryz.prog ops Q (o :: rest) a W := by
 obtain ⟨v', w', hr, hk⟩ := H
 refine wpList_plain hgd fun K hK => ?_
 unfold Oper.wp execOp
 simp only [ho, resolve, invoke, builtin, Sem.run_bind, Sem.run_pure, Result.andThen_ok, List.map_toArray, List.map_cons, List.map_nil, hs, hx, hr]
 exact hK _ _ hk
def WsAll (w : World) (ls : List QW) : Prop := ∀ i, i < ls.length → WS w (ls.getD i zq).A (ls.getD i zq).l ∧ WS w (ls.getD i zq).B (ls.getD i zq).k ∧ (ls.getD i zq).l.length ≤ (ls.getD i zq).c ∧ (ls.getD i zq).k.length ≤ (ls.getD i zq).d
theorem RL.ws {qs : List QW} (h : RL w A qs) : WsAll w qs := fun i hi => by
 obtain ⟨b, off, _, _, hq⟩ := h (by rintro rfl; simp at hi)
 obtain ⟨_, _, _, _, r⟩ := hq i hi
 exact r
theorem WsAll.cons {a : QW} {ls : List QW} (h1 : WS w a.A a.l) (h2 : WS w a.B a.k) (h3 : a.l.length ≤ a.c ∧ a.k.length ≤ a.d) (h : WsAll w ls) : WsAll w (a :: ls) := fun i hi => by
 cases i with
 | zero => exact ⟨h1, h2, h3⟩
 | succ i => exact h i (by simpa using hi)
def sm10 (a : QW) : Bool := decide (a.l.length ≤ 10) && decide (a.k.length ≤ 10) && isQ a.n a.l a.m a.k
theorem Cp.four {a v : QW} {o : Option Nat} (h : Cp W o a v) (hb : Box4 W p (.bool u) (.slice B k d) (.bool t) (.slice C i e)) (x y s r : Value) :
  Cp ((((W.setCell ⟨p, 0, none⟩ x).setCell ⟨p, 1, none⟩ y).setCell ⟨p, 2, none⟩ s).setCell ⟨p, 3, none⟩ r) o a v := by
 have o1 := ws_off4 h.w1 hb
 have o2 := ws_off4 h.w2 hb
 exact ⟨h.n, h.l, h.m, h.k, (h.w1.two o1 _ _).two23 o1 _ _, (h.w2.two o2 _ _).two23 o2 _ _, h.off⟩
theorem CRow.four {y : Value} {qs bs : List QW} (h : CRow W base y qs bs) (hb : Box4 W p (.bool u) (.slice B k d) (.bool t) (.slice C i e)) (hne : ∀ g, y.ownBlock = some g → g ≠ p) (x z s r : Value) :
  CRow ((((W.setCell ⟨p, 0, none⟩ x).setCell ⟨p, 1, none⟩ z).setCell ⟨p, 2, none⟩ s).setCell ⟨p, 3, none⟩ r) base y qs bs := by
 refine ⟨⟨h.1.1, ?_⟩, fun i hi => (h.2 i hi).four hb _ _ _ _⟩
 rcases h.1.2 with h0 | ⟨g, cap, cur, rfl, hbs, hg, hr⟩
 ·exact .inl h0
 ·refine .inr ⟨g, cap, cur, rfl, hbs, ?_, hr⟩
  have hn := hne g rfl
  rw [Below.heap_setCell _ _ _ _ hn, Below.heap_setCell _ _ _ _ hn, Below.heap_setCell _ _ _ _ hn, Below.heap_setCell _ _ _ _ hn]
  exact hg
def Laid9 (W1 : World) (a b : QW) (qs : List QW) (x0 x1 x2 : Value) (wx : World) : Prop :=
 ∃ v0 v1 bs b0 b1 base, (x0 = .pointer (some ⟨b0, 0, none⟩) ∧ Box4 wx b0 (.bool v0.n) (.slice v0.A v0.l.length v0.c) (.bool v0.m) (.slice v0.B v0.k.length v0.d) ∧ Cp wx none a v0) ∧
  (x1 = .pointer (some ⟨b1, 0, none⟩) ∧ Box4 wx b1 (.bool v1.n) (.slice v1.A v1.l.length v1.c) (.bool v1.m) (.slice v1.B v1.k.length v1.d) ∧ Cp wx none b v1) ∧ CRow wx base x2 qs bs ∧ bs.length = qs.length ∧ Below W1.heap.size W1 wx
theorem sw_start (w : World) {a b : QW} {qs : List QW} (h : RL w A qs) (hby : (2 + qs.length) * 64 ≤ 140737488355328) :
  ∃ g cap w3, (Builtin.append_ #[53, 53] 53 #[.slice (some ⟨w.heap.size + 1 + 1, 0, none⟩) 2 2, .slice A qs.length c]).run Tryz.prog (((w.alloc (.cells #[.bool a.n, .slice a.A a.l.length a.c, .bool a.m, .slice a.B a.k.length a.d] 35)).alloc (.cells #[.bool b.n, .slice b.A b.l.length b.c, .bool b.m, .slice b.B b.k.length b.d] 35)).alloc (.cells #[.bool a.n, .slice a.A a.l.length a.c, .bool a.m, .slice a.B a.k.length a.d, .bool b.n, .slice b.A b.l.length b.c, .bool b.m, .slice b.B b.k.length b.d] 35)) = .ok (.slice (some ⟨g, 0, none⟩) (2 + qs.length) cap) w3 ∧ (∀ i, i < 2 + qs.length → El4 w3 g (i * 4) (.bool ((a :: b :: qs).getD i zq).n) (.slice ((a :: b :: qs).getD i zq).A ((a :: b :: qs).getD i zq).l.length ((a :: b :: qs).getD i zq).c) (.bool ((a :: b :: qs).getD i zq).m) (.slice ((a :: b :: qs).getD i zq).B ((a :: b :: qs).getD i zq).k.length ((a :: b :: qs).getD i zq).d)) ∧ Below w.heap.size w w3 ∧ Box4 w3 w.heap.size (.bool a.n) (.slice a.A a.l.length a.c) (.bool a.m) (.slice a.B a.k.length a.d) ∧ Box4 w3 (w.heap.size + 1) (.bool b.n) (.slice b.A b.l.length b.c) (.bool b.m) (.slice b.B b.k.length b.d) := by
 obtain ⟨W1, hW1, hw1, x0, x1⟩ : ∃ W, W = ((w.alloc (.cells #[.bool a.n, .slice a.A a.l.length a.c, .bool a.m, .slice a.B a.k.length a.d] 35)).alloc (.cells #[.bool b.n, .slice b.A b.l.length b.c, .bool b.m, .slice b.B b.k.length b.d] 35)) ∧ Below w.heap.size w W ∧ Box4 W w.heap.size (.bool a.n) (.slice a.A a.l.length a.c) (.bool a.m) (.slice a.B a.k.length a.d) ∧ Box4 W (w.heap.size + 1) (.bool b.n) (.slice b.A b.l.length b.c) (.bool b.m) (.slice b.B b.k.length b.d) := by
  refine ⟨_, rfl, ba (ba (b0 _) _) _, (Box4.new w _ _ _ _).alloc _, ?_⟩
  have h := Box4.new (w.alloc (.cells #[.bool a.n, .slice a.A a.l.length a.c, .bool a.m, .slice a.B a.k.length a.d] 35)) (.bool b.n) (.slice b.A b.l.length b.c) (.bool b.m) (.slice b.B b.k.length b.d)
  rwa [World.size_alloc] at h
 obtain ⟨W2, hW2⟩ : ∃ W, W = W1.alloc (.cells #[.bool a.n, .slice a.A a.l.length a.c, .bool a.m, .slice a.B a.k.length a.d, .bool b.n, .slice b.A b.l.length b.c, .bool b.m, .slice b.B b.k.length b.d] 35) := ⟨_, rfl⟩
 have hs1 : W1.heap.size = w.heap.size + 1 + 1 := by rw [hW1]; simp [World.size_alloc]
 have hb2 : Below W1.heap.size W1 W2 := by rw [hW2]; exact ba (b0 _) _
 have hown : W2.ownsRow w.heap.size 35 4 (.slice (some ⟨w.heap.size + 1 + 1, 0, none⟩) 2 2) 2 ([a, b].flatMap qcells) := by
  refine ⟨rfl, .inr ⟨w.heap.size + 1 + 1, 2, #[.bool a.n, .slice a.A a.l.length a.c, .bool a.m, .slice a.B a.k.length a.d, .bool b.n, .slice b.A b.l.length b.c, .bool b.m, .slice b.B b.k.length b.d], rfl, by omega, ?_, Nat.le_refl _, by simp [maxLen], rfl, rfl⟩⟩
  rw [hW2, ← hs1]
  exact heap_alloc_new W1 _
 have hsz2 : w.heap.size ≤ W2.heap.size := Nat.le_trans hw1.size hb2.size
 obtain ⟨av, w3, hr, ho3, hg3⟩ := app_list W2 53 w.heap.size 2 _ 2 [a, b] hown (h.below (bt hw1 hb2)) hby hsz2
 have hl2 : ([a, b] ++ qs).length = 2 + qs.length := by simp; omega
 have hall : AllR w3 av ([a, b] ++ qs) := AllR.of (by rw [hl2]; exact ho3) (by simp)
 obtain ⟨g, cap, rfl, hel⟩ := hall
 have hb3 : Below w.heap.size w w3 := (bt hw1 hb2).grown hg3 hsz2 (fun k hk => by injection hk with hk; omega)
 have X0 : (Box4 w3 w.heap.size (.bool a.n) (.slice a.A a.l.length a.c) (.bool a.m) (.slice a.B a.k.length a.d)) := (by
  have hx := x0.below hb2
  exact (hg3.block _ hx.lt (by intro e; injection e with e; omega)).trans hx)
 have X1 : (Box4 w3 (w.heap.size + 1) (.bool b.n) (.slice b.A b.l.length b.c) (.bool b.m) (.slice b.B b.k.length b.d)) := (by
  have hx := x1.below hb2
  exact (hg3.block _ hx.lt (by intro e; injection e with e; omega)).trans hx)
 rw [hl2] at hr hel
 rw [hW2, hW1] at hr
 exact ⟨g, cap, w3, hr, hel, hb3, X0, X1⟩
theorem m2ae90 {P : Prop} (h : P := by
 refine (sane2 _ (HTn.out.below HBW.out)).mono ?_
 rintro e wz ⟨rfl, hb⟩
 have hwz := bt HBW.out hb
 clear hb
 go_wp2_with fail
 go_ret
 exact ⟨rfl, hwz⟩) : P := h
theorem mbd1d5 {P : Prop} (h : P := by
 refine (sane2 _ (HTn.out.below HBW.out)).mono ?_
 rintro e wz ⟨rfl, hb⟩
 have hwz := bt HBW.out hb
 clear hb e0 e1 e2 e3
 go_wp2_with fail
 go_ret
 exact ⟨rfl, hwz⟩) : P := h
theorem RatStays_walk (w : World) {a b : QW} {qs : List QW} {z : Int} (a1 : WS w a.A a.l) (a2 : WS w a.B a.k) (a3 : a.l.length ≤ a.c ∧ a.k.length ≤ a.d) (b1 : WS w b.A b.l) (b2 : WS w b.B b.k) (b3 : b.l.length ≤ b.c ∧ b.k.length ≤ b.d)
  (h : RL w A qs) (hby : (2 + qs.length) * 64 ≤ 140737488355328) (hz : -9223372036854775808 ≤ z ∧ z ≤ 9223372036854775807) (hT : Tens w) :
  Calls Tryz.prog 10 #[.agg #[.bool a.n, .slice a.A a.l.length a.c, .bool a.m, .slice a.B a.k.length a.d], .agg #[.bool b.n, .slice b.A b.l.length b.c, .bool b.m, .slice b.B b.k.length b.d], .slice A qs.length c, .int .i64 z] w fun e w' => e = .returned (.bool true) ∧ Below w.heap.size w w' := by
 have HTn := Hi hT
 have H := Hi h
 have HWS : Hid (WsAll w (a :: b :: qs)) := Hi (.cons a1 a2 a3 (.cons b1 b2 b3 h.ws))
 have HZ := Hi hz
 obtain ⟨g, cap, w3, hr, hel, hb3, X0, X1⟩ := sw_start (a := a) (b := b) (c := c) w h hby
 have X0 := Hi X0
 have X1 := Hi X1
 have HR := Hi hr
 have HEL := Hi hel
 have HB3 := Hi hb3
 have HBY := Hi hby
 obtain ⟨N, hN⟩ : ∃ N, N = 2 + qs.length := ⟨_, rfl⟩
 obtain ⟨ls, hls⟩ : ∃ ls, ls = a :: b :: qs := ⟨_, rfl⟩
 have hlN : ls.length = N := by rw [hls, hN]; simp; omega
 rw [← hls] at HWS
 rw [← hls, ← hN] at HEL
 rw [← hN] at HR
 have HN := Hi hN
 have HLS := Hi hls
 have HLN := Hi hlN
 clear hr hel hb3 hT h hN hls hlN a1 a2 a3 b1 b2 b3 hz hby
 go_enter Tryz.func10, Tryz.ntmps10
 go_wp2_with (at_builtin; refine wpl_append rfl (.tmp 16) (.tmp 17) rfl (v := .slice (some ⟨w.heap.size + 1 + 1, 0, none⟩) 2 2) (u := .slice A qs.length c) rfl rfl ⟨_, w3, HR.out, ?_⟩)
 have HA0 : Hid (∀ i, i < 0 → sm10 (ls.getD i zq) = true) := Hi (fun i hi => by omega)
 have HB0 : Hid (Below w3.heap.size w3 w3) := Hi (b0 _)
 go_loopw [10] (fun iv wr => ∃ j : Nat, iv = .int .i64 (j : Int) ∧ j ≤ N ∧ Hid (∀ i, i < j → sm10 (ls.getD i zq) = true) ∧ Hid (Below w3.heap.size w3 wr)) (fun iv wr => N - (intOf iv).toNat)
 case atStart => exact ⟨0, rfl, Nat.zero_le _, HA0, HB0⟩
 case round =>
  obtain ⟨j, rfl, hjl, HS, HBJ⟩ := hrel
  clear HA0 HB0
  obtain ⟨wo, hwo⟩ : ∃ wo, wo = wr := ⟨_, rfl⟩
  rw [← hwo] at HBJ ⊢
  clear hwo wr
  have HBW := Hi (bt HB3.out HBJ.out)
  by_cases hjn : j < N
  ·have hji : (j : Int) < (N : Int) := by omega
   have hj0 : ¬ (j : Int) < 0 := by omega
   have hx := (HEL.out j hjn).below HBJ.out
   obtain ⟨s1, s2, s3, s4⟩ := HWS.out j (by rw [HLN.out]; exact hjn)
   obtain ⟨x, hxx⟩ : ∃ a, a = ls.getD j zq := ⟨_, rfl⟩
   rw [← hxx] at hx s1 s2 s3 s4
   have HX := Hi hxx
   have S1 := Hi (s1.below HBW.out)
   have S2 := Hi (s2.below HBW.out)
   have S3 := Hi s3
   have S4 := Hi s4
   obtain ⟨e0, e1, e2, e3⟩ := hx.cs
   clear hx hxx s1 s2 s3 s4
   by_cases h1 : (10 : Int) < (x.l.length : Int)
   ·go_wp2_with fail
    exact mbd1d5
   ·by_cases h2 : (10 : Int) < (x.k.length : Int)
    ·go_wp2_with fail
     exact mbd1d5
    ·go_wp2_with fail
     refine (RQIs_any S1.out S2.out S3.out S4.out (by omega) (by omega)).mono ?_
     rintro e w4 ⟨rfl, hb⟩
     have HB4 := Hi (bt HBJ.out hb)
     have HW4 := Hi (bt HBW.out hb)
     clear hb e0 e1 e2 e3 S1 S2 S3 S4
     cases hsm : isQ x.n x.l x.m x.k with
     | false =>
      go_wp2_with fail
      refine (sane2 _ (HTn.out.below HW4.out)).mono ?_
      rintro e wz ⟨rfl, hb⟩
      have hwz := bt HW4.out hb
      clear hb
      go_wp2_with fail
      go_ret
      exact ⟨rfl, hwz⟩
     | true =>
      have HSJ : Hid (∀ i, i < j + 1 → sm10 (ls.getD i zq) = true) := Hi (fun i hi => by
       rcases Nat.lt_or_ge i j with h3 | h3
       ·exact HS.out i h3
       ·obtain rfl : i = j := by omega
        rw [← HX.out]
        unfold sm10
        rw [hsm, decide_eq_true (by omega), decide_eq_true (by omega)]; rfl)
      clear hsm h1 h2
      go_wp2_with fail
      go_roundw
      case rel =>
       have hwj : wrap64 ((j : Int) + 1) = ((j + 1 : Nat) : Int) := by have h1 := HBY.out; have h2 := HN.out; unfold wrap64; omega
       exact ⟨j + 1, by first | rfl | rw [hwj] | simp, by omega, HSJ, HB4⟩
      case measure =>
       have hwj : wrap64 ((j : Int) + 1) = ((j + 1 : Nat) : Int) := by have h1 := HBY.out; have h2 := HN.out; unfold wrap64; omega
       try rw [hwj]
       simp [intOf]
       omega
  ·have hji : ¬ (j : Int) < (N : Int) := by omega
   obtain rfl : N = j := by omega
   by_cases h1 : (8 : Int) < (qs.length : Int)
   ·go_wp2_with fail
    exact m2ae90
   by_cases h2 : z < -8
   ·go_wp2_with fail
    exact m2ae90
   by_cases h3 : (8 : Int) < z
   ·go_wp2_with fail
    exact m2ae90
   have hq10 : ∀ i, i < N → ∃ q : Rat, QV 10 w (ls.getD i zq) q := fun i hi => by
    obtain ⟨s1, s2, s3, s4⟩ := HWS.out i (by rw [HLN.out]; exact hi)
    exact small_q (N := 10) s1 s2 s3 s4 (HS.out i hi)
   obtain ⟨qa, ja⟩ := hq10 0 (by have := HN.out; omega)
   obtain ⟨qb, jb⟩ := hq10 1 (by have := HN.out; omega)
   have JL : Hid (∀ i, i < qs.length → ∃ q : Rat, QV 10 w (qs.getD i zq) q) := Hi (fun i hi => by
    have h := hq10 (i + 2) (by have := HN.out; omega)
    rwa [HLS.out] at h)
   rw [HLS.out] at ja jb
   have Ja := Hi (show QV 10 w a qa from ja)
   have Jb := Hi (show QV 10 w b qb from jb)
   have HQ8 : Hid (qs.length ≤ 8 ∧ z.natAbs ≤ 8) := Hi (by omega)
   have x0 := X0.out.below HBJ.out
   have x1 := X1.out.below HBJ.out
   clear hq10 ja jb X0 X1 HS hji HEL HR HWS hjl hjn
   go_wp2_with fail
   go_cut [11, 12, 13] (fun x0 x1 x2 wx => Laid9 wo a b qs x0 x1 x2 wx)
   case first =>
    as_aux_lemma =>
    have HC := Go.Proofs.YtgljdfblgpdaaaaGreatDoor.hj x0.hc x1.hc
    have HWW := Hi HBW.out
    refine rgh HC fun hHeld => ?_
    refine tk 0 ?_
    refine tk 2 ?_
    refine tk 4 ?_
    clear hHeld
    try simp only [Act.put, List.getElem?_toArray, List.getElem?_cons_zero, List.getElem?_cons_succ, List.setIfInBounds_toArray, List.set_cons_zero, List.set_cons_succ]
    refine wpAnyH_inv (fun a0 L aa W => ∃ (k0 k1 k2 c0 c1 d0 d1 f : Bool) (y0 y1 y2 x0 x1 x2 : Value) (v0 v1 : QW) (bs : List QW) (m0 m1 base : Nat), L = #[true, k0, true, k1, true, k2, c0, c1, d0, d1, f] ∧ aa = ((((((a0.put (some 65) y0).put (some 67) y1).put (some 69) y2).put (some 11) x0).put (some 12) x1).put (some 13) x2) ∧ Below wo.heap.size wo W ∧ (k0 = true → y0 = .agg #[.bool v0.n, .slice v0.A v0.l.length v0.c, .bool v0.m, .slice v0.B v0.k.length v0.d] ∧ Cp W none a v0) ∧ (k1 = true → y1 = .agg #[.bool v1.n, .slice v1.A v1.l.length v1.c, .bool v1.m, .slice v1.B v1.k.length v1.d] ∧ Cp W none b v1) ∧ (k2 = true → CRow W base y2 qs bs ∧ bs.length = qs.length) ∧ (c0 = true → x0 = .pointer (some ⟨m0, 0, none⟩) ∧ wo.heap.size ≤ m0 ∧ Box4 W m0 (bd0 d0 v0) (bd1 d0 v0) (bd2 d0 v0) (bd3 d0 v0)) ∧ (c1 = true → x1 = .pointer (some ⟨m1, 0, none⟩) ∧ wo.heap.size ≤ m1 ∧ Box4 W m1 (bd0 d1 v1) (bd1 d1 v1) (bd2 d1 v1) (bd3 d1 v1)) ∧ (c0 = true → c1 = true → m0 ≠ m1) ∧ (k2 = true → c0 = true → ∀ g, y2.ownBlock = some g → g ≠ m0) ∧ (k2 = true → c1 = true → ∀ g, y2.ownBlock = some g → g ≠ m1) ∧ (d0 = true → k0 = true ∧ c0 = true) ∧ (d1 = true → k1 = true ∧ c1 = true) ∧ (f = true → k2 = true ∧ x2 = y2)) (by decide) ?_ ?_ ?_
    ·exact ⟨false, false, false, false, false, false, false, false, undef, undef, undef, undef, undef, undef, zq, zq, [], 0, 0, 0, rfl, (by simp only [Act.put, List.setIfInBounds_toArray, List.set_cons_zero, List.set_cons_succ]), bw (b0 _), (fun h => by cases h), (fun h => by cases h), (fun h => by cases h), (fun h => by cases h), (fun h => by cases h), (fun h => by cases h), (fun h => by cases h), (fun h => by cases h), (fun h => by cases h), (fun h => by cases h), (fun h => by cases h)⟩
    ·rintro L aa W i ⟨k0, k1, k2, c0, c1, d0, d1, f, y0, y1, y2, x0, x1, x2, v0, v1, bs, m0, m1, base, rfl, rfl, hb, hk0, hk1, hk2, hc0, hc1, n01, g0, g1, e0, e1, hf⟩ hi K hK
     have hun := (mem_ready.1 hi).1
     have hi20 : i < 11 := by
      rcases Nat.lt_or_ge i 11 with h | h
      ·exact h
      ·rw [Array.getD_eq_getD_getElem?, Array.getElem?_eq_none (by simpa using h)] at hun; cases hun
     have hcase : i = 1 ∨ i = 3 ∨ i = 5 ∨ i = 6 ∨ i = 7 ∨ i = 8 ∨ i = 9 ∨ i = 10 := by
      have hl : i ≠ 0 ∧ i ≠ 2 ∧ i ≠ 4 := by
       refine ⟨?_, ?_, ?_⟩ <;> (rintro rfl; cases hun)
      omega
     rcases hcase with rfl | rfl | rfl | rfl | rfl | rfl | rfl | rfl
     ·obtain rfl : k0 = false := hun
      have hd : d0 = false := by
       cases d0
       ·rfl
       ·exact absurd (e0 rfl).1 (by decide)
      subst hd
      refine wpOp_do rfl rfl ?_
      simp only [Act.put, List.setIfInBounds_toArray, List.set_cons_zero, List.set_cons_succ]
      go_simp
      go_at_call 68
      refine (RCloneQ (Ja.out.num.ws.below (bt HWW.out hb)) (Ja.out.den.ws.below (bt HWW.out hb)) (by have := Ja.out.num.len; omega) (by have := Ja.out.den.len; omega)).mono ?_
      rintro e W' ⟨v, rfl, hv, hb'⟩
      have HB' := bt hb hb'
      refine hK.out _ _ (HC.out _ HB') ?_
      exact ⟨true, k1, k2, c0, c1, false, d1, f, (.agg #[.bool v.n, .slice v.A v.l.length v.c, .bool v.m, .slice v.B v.k.length v.d]), y1, y2, x0, x1, x2, v, v1, bs, m0, m1, base, (by kernel_rfl), (by simp only [Act.put, List.setIfInBounds_toArray, List.set_cons_zero, List.set_cons_succ]), HB', fun _ => ⟨rfl, hv none (fun p hp => by cases hp)⟩, fun h => ⟨(hk1 h).1, (hk1 h).2.below hb'⟩, fun h => ⟨(hk2 h).1.below hb', (hk2 h).2⟩, fun h => ⟨(hc0 h).1, (hc0 h).2.1, (hc0 h).2.2.below hb'⟩, fun h => ⟨(hc1 h).1, (hc1 h).2.1, (hc1 h).2.2.below hb'⟩, n01, g0, g1, (fun h => by cases h), e1, hf⟩
     ·obtain rfl : k1 = false := hun
      have hd : d1 = false := by
       cases d1
       ·rfl
       ·exact absurd (e1 rfl).1 (by decide)
      subst hd
      refine wpOp_do rfl rfl ?_
      simp only [Act.put, List.setIfInBounds_toArray, List.set_cons_zero, List.set_cons_succ]
      go_simp
      go_at_call 68
      refine (RCloneQ (Jb.out.num.ws.below (bt HWW.out hb)) (Jb.out.den.ws.below (bt HWW.out hb)) (by have := Jb.out.num.len; omega) (by have := Jb.out.den.len; omega)).mono ?_
      rintro e W' ⟨v, rfl, hv, hb'⟩
      have HB' := bt hb hb'
      refine hK.out _ _ (HC.out _ HB') ?_
      exact ⟨k0, true, k2, c0, c1, d0, false, f, y0, (.agg #[.bool v.n, .slice v.A v.l.length v.c, .bool v.m, .slice v.B v.k.length v.d]), y2, x0, x1, x2, v0, v, bs, m0, m1, base, (by kernel_rfl), (by simp only [Act.put, List.setIfInBounds_toArray, List.set_cons_zero, List.set_cons_succ]), HB', fun h => ⟨(hk0 h).1, (hk0 h).2.below hb'⟩, fun _ => ⟨rfl, hv none (fun p hp => by cases hp)⟩, fun h => ⟨(hk2 h).1.below hb', (hk2 h).2⟩, fun h => ⟨(hc0 h).1, (hc0 h).2.1, (hc0 h).2.2.below hb'⟩, fun h => ⟨(hc1 h).1, (hc1 h).2.1, (hc1 h).2.2.below hb'⟩, n01, g0, g1, e0, (fun h => by cases h), hf⟩
     ·obtain rfl : k2 = false := hun
      have hd : f = false := by
       cases f
       ·rfl
       ·exact absurd (hf rfl).1 (by decide)
      subst hd
      refine wpOp_do rfl rfl ?_
      simp only [Act.put, List.setIfInBounds_toArray, List.set_cons_zero, List.set_cons_succ]
      go_simp
      go_at_call 69
      refine (CloneAll_any W (H.out.below (bt HWW.out hb)) (by have := HQ8.out; omega) (fun i hi => by
       obtain ⟨q, hq⟩ := JL.out i hi
       have h1 := hq.num.len
       have h2 := hq.den.len
       omega)).mono ?_
      rintro e W' ⟨v, bs', rfl, hl', hv, hb'⟩
      have HB' := bt hb hb'
      have hown : ∀ g, v.ownBlock = some g → W.heap.size ≤ g := fun g hg => (hv.own hg).1
      refine hK.out _ _ (HC.out _ HB') ?_
      exact ⟨k0, k1, true, c0, c1, d0, d1, false, y0, y1, v, x0, x1, x2, v0, v1, bs', m0, m1, W.heap.size, (by kernel_rfl), (by simp only [Act.put, List.setIfInBounds_toArray, List.set_cons_zero, List.set_cons_succ]), HB', fun h => ⟨(hk0 h).1, (hk0 h).2.below hb'⟩, fun h => ⟨(hk1 h).1, (hk1 h).2.below hb'⟩, fun _ => ⟨hv, hl'⟩, fun h => ⟨(hc0 h).1, (hc0 h).2.1, (hc0 h).2.2.below hb'⟩, fun h => ⟨(hc1 h).1, (hc1 h).2.1, (hc1 h).2.2.below hb'⟩, n01, fun _ h g hg => by have h1 := hown g hg; have h2 := (hc0 h).2.2.lt; omega, fun _ h g hg => by have h1 := hown g hg; have h2 := (hc1 h).2.2.lt; omega, e0, e1, (fun h => by cases h)⟩
     ·obtain rfl : c0 = false := hun
      have hd : d0 = false := by
       cases d0
       ·rfl
       ·exact absurd (e0 rfl).2 (by decide)
      subst hd
      refine wpOp_do rfl rfl ?_
      simp only [Act.put, List.setIfInBounds_toArray, List.set_cons_zero, List.set_cons_succ]
      go_simp
      have hba := ba (b0 W) (.cells #[.bool false, .slice none 0 0, .bool false, .slice none 0 0] 35)
      have HB' := bt hb hba
      refine hK.out _ _ (HC.out _ HB') ?_
      exact ⟨k0, k1, k2, true, c1, false, d1, f, y0, y1, y2, .pointer (some ⟨W.heap.size, 0, none⟩), x1, x2, v0, v1, bs, W.heap.size, m1, base, (by kernel_rfl), (by simp only [Act.put, List.setIfInBounds_toArray, List.set_cons_zero, List.set_cons_succ]), HB', fun h => ⟨(hk0 h).1, (hk0 h).2.below hba⟩, fun h => ⟨(hk1 h).1, (hk1 h).2.below hba⟩, fun h => ⟨(hk2 h).1.below hba, (hk2 h).2⟩, fun _ => ⟨rfl, hb.size, Box4.new _ _ _ _ _⟩, fun h => ⟨(hc1 h).1, (hc1 h).2.1, (hc1 h).2.2.below hba⟩, fun _ h => Nat.ne_of_gt (hc1 h).2.2.lt, fun h _ g hg => by have := ((hk2 h).1.own hg).2; omega, g1, (fun h => by cases h), e1, hf⟩
     ·obtain rfl : c1 = false := hun
      have hd : d1 = false := by
       cases d1
       ·rfl
       ·exact absurd (e1 rfl).2 (by decide)
      subst hd
      refine wpOp_do rfl rfl ?_
      simp only [Act.put, List.setIfInBounds_toArray, List.set_cons_zero, List.set_cons_succ]
      go_simp
      have hba := ba (b0 W) (.cells #[.bool false, .slice none 0 0, .bool false, .slice none 0 0] 35)
      have HB' := bt hb hba
      refine hK.out _ _ (HC.out _ HB') ?_
      exact ⟨k0, k1, k2, c0, true, d0, false, f, y0, y1, y2, x0, .pointer (some ⟨W.heap.size, 0, none⟩), x2, v0, v1, bs, m0, W.heap.size, base, (by kernel_rfl), (by simp only [Act.put, List.setIfInBounds_toArray, List.set_cons_zero, List.set_cons_succ]), HB', fun h => ⟨(hk0 h).1, (hk0 h).2.below hba⟩, fun h => ⟨(hk1 h).1, (hk1 h).2.below hba⟩, fun h => ⟨(hk2 h).1.below hba, (hk2 h).2⟩, fun h => ⟨(hc0 h).1, (hc0 h).2.1, (hc0 h).2.2.below hba⟩, fun _ => ⟨rfl, hb.size, Box4.new _ _ _ _ _⟩, fun h _ => Nat.ne_of_lt (hc0 h).2.2.lt, g0, fun h _ g hg => by have := ((hk2 h).1.own hg).2; omega, e0, (fun h => by cases h), hf⟩
     ·obtain rfl : d0 = false := hun
      have hedge := ready_edge (j := 6) hi rfl (by kernel_rfl)
      obtain rfl : c0 = true := hedge
      have hedge2 := ready_edge (j := 1) hi rfl (by kernel_rfl)
      obtain rfl : k0 = true := hedge2
      have hz := hc0 rfl
      have hy := hk0 rfl
      have hbx : Box4 W m0 (.bool false) (.slice none 0 0) (.bool false) (.slice none 0 0) := hz.2.2
      have hL := hz.2.1
      rw [hz.1, hy.1]
      obtain ⟨f0, f1, f2, f3⟩ := hbx.fr
      obtain ⟨r0, r1, r2, r3⟩ := hbx.cs
      clear hz hy
      refine wpOp_do rfl rfl ?_
      simp only [Act.put, List.setIfInBounds_toArray, List.set_cons_zero, List.set_cons_succ]
      go_simp
      have HB' := b4 hb hL (.bool v0.n) (.slice v0.A v0.l.length v0.c) (.bool v0.m) (.slice v0.B v0.k.length v0.d)
      refine hK.out _ _ (HC.out _ HB') ?_
      exact ⟨true, k1, k2, true, c1, true, d1, f, (.agg #[.bool v0.n, .slice v0.A v0.l.length v0.c, .bool v0.m, .slice v0.B v0.k.length v0.d]), y1, y2, .pointer (some ⟨m0, 0, none⟩), x1, x2, v0, v1, bs, m0, m1, base, (by kernel_rfl), (by simp only [Act.put, List.setIfInBounds_toArray, List.set_cons_zero, List.set_cons_succ]), HB', fun h => ⟨rfl, (hk0 h).2.four hbx _ _ _ _⟩, fun h => ⟨(hk1 h).1, (hk1 h).2.four hbx _ _ _ _⟩, fun h => ⟨(hk2 h).1.four hbx (g0 h rfl) _ _ _ _, (hk2 h).2⟩, fun _ => ⟨rfl, hL, hbx.stored _ _ _ _⟩, fun h => ⟨(hc1 h).1, (hc1 h).2.1, (hc1 h).2.2.far4 ((n01 rfl h).symm) _ _ _ _⟩, n01, g0, g1, (fun _ => ⟨rfl, rfl⟩), e1, hf⟩
     ·obtain rfl : d1 = false := hun
      have hedge := ready_edge (j := 7) hi rfl (by kernel_rfl)
      obtain rfl : c1 = true := hedge
      have hedge2 := ready_edge (j := 3) hi rfl (by kernel_rfl)
      obtain rfl : k1 = true := hedge2
      have hz := hc1 rfl
      have hy := hk1 rfl
      have hbx : Box4 W m1 (.bool false) (.slice none 0 0) (.bool false) (.slice none 0 0) := hz.2.2
      have hL := hz.2.1
      rw [hz.1, hy.1]
      obtain ⟨f0, f1, f2, f3⟩ := hbx.fr
      obtain ⟨r0, r1, r2, r3⟩ := hbx.cs
      clear hz hy
      refine wpOp_do rfl rfl ?_
      simp only [Act.put, List.setIfInBounds_toArray, List.set_cons_zero, List.set_cons_succ]
      go_simp
      have HB' := b4 hb hL (.bool v1.n) (.slice v1.A v1.l.length v1.c) (.bool v1.m) (.slice v1.B v1.k.length v1.d)
      refine hK.out _ _ (HC.out _ HB') ?_
      exact ⟨k0, true, k2, c0, true, d0, true, f, y0, (.agg #[.bool v1.n, .slice v1.A v1.l.length v1.c, .bool v1.m, .slice v1.B v1.k.length v1.d]), y2, x0, .pointer (some ⟨m1, 0, none⟩), x2, v0, v1, bs, m0, m1, base, (by kernel_rfl), (by simp only [Act.put, List.setIfInBounds_toArray, List.set_cons_zero, List.set_cons_succ]), HB', fun h => ⟨(hk0 h).1, (hk0 h).2.four hbx _ _ _ _⟩, fun h => ⟨rfl, (hk1 h).2.four hbx _ _ _ _⟩, fun h => ⟨(hk2 h).1.four hbx (g1 h rfl) _ _ _ _, (hk2 h).2⟩, fun h => ⟨(hc0 h).1, (hc0 h).2.1, (hc0 h).2.2.far4 (n01 h rfl) _ _ _ _⟩, fun _ => ⟨rfl, hL, hbx.stored _ _ _ _⟩, n01, g0, g1, e0, (fun _ => ⟨rfl, rfl⟩), hf⟩
     ·obtain rfl : f = false := hun
      have hedge := ready_edge (j := 5) hi rfl (by kernel_rfl)
      obtain rfl : k2 = true := hedge
      refine wpOp_do rfl rfl ?_
      simp only [Act.put, List.setIfInBounds_toArray, List.set_cons_zero, List.set_cons_succ]
      go_simp
      refine hK.out _ _ (HC.out _ hb) ?_
      exact ⟨k0, k1, true, c0, c1, d0, d1, true, y0, y1, y2, x0, x1, y2, v0, v1, bs, m0, m1, base, (by kernel_rfl), (by simp only [Act.put, List.setIfInBounds_toArray, List.set_cons_zero, List.set_cons_succ]), hb, hk0, hk1, hk2, hc0, hc1, n01, g0, g1, e0, e1, fun _ => ⟨rfl, rfl⟩⟩
    ·rintro L aa W ⟨k0, k1, k2, c0, c1, d0, d1, f, y0, y1, y2, x0, x1, x2, v0, v1, bs, m0, m1, base, rfl, rfl, hb, hk0, hk1, hk2, hc0, hc1, n01, g0, g1, e0, e1, hf⟩ hr
     have hall := none_left (by kernel_rfl) rfl hr
     obtain rfl : k0 = true := hall 1 (by decide)
     obtain rfl : k1 = true := hall 3 (by decide)
     obtain rfl : k2 = true := hall 5 (by decide)
     obtain rfl : c0 = true := hall 6 (by decide)
     obtain rfl : c1 = true := hall 7 (by decide)
     obtain rfl : d0 = true := hall 8 (by decide)
     obtain rfl : d1 = true := hall 9 (by decide)
     obtain rfl : f = true := hall 10 (by decide)
     have z0 := hc0 rfl
     have z1 := hc1 rfl
     have u2 := hk2 rfl
     have hx2 := (hf rfl).2
     subst hx2
     have HZ := Hi (show Laid9 wo a b qs x0 x1 x2 W from ⟨v0, v1, bs, m0, m1, base, ⟨z0.1, z0.2.2, (hk0 rfl).2⟩, ⟨z1.1, z1.2.2, (hk1 rfl).2⟩, u2.1, u2.2, hb⟩)
     clear hall hr hk0 hk1 hk2 hc0 hc1 n01 g0 g1 e0 e1 hf z0 z1 u2
     go_wp2_with fail
     try simp only [Act.put, List.setIfInBounds_toArray, List.set_cons_zero, List.set_cons_succ]
     go_meet
     exact HZ.out
   case rest =>
   obtain ⟨v0, v1, bs, p0, p1, base, ⟨rfl, y0, t0⟩, ⟨rfl, y1, t1⟩, hrow, hbl, hb⟩ := hcut
   obtain ⟨w4, hwn⟩ : ∃ v, v = wc := ⟨_, rfl⟩
   rw [← hwn] at y0 y1 t0 t1 hrow hb ⊢
   clear hwn wc
   have x0 := x0.below hb
   have x1 := x1.below hb
   have hwz := bt HBW.out hb
   have T0 := Hi t0
   have T1 := Hi t1
   have HROW := Hi hrow
   clear t0 t1 hrow hb HBW HBJ
   have c_x0_0 := x0.cell0
   have c_x0_1 := x0.cell1
   have c_x0_2 := x0.cell2
   have c_x0_3 := x0.cell3
   have c_x1_0 := x1.cell0
   have c_x1_1 := x1.cell1
   have c_x1_2 := x1.cell2
   have c_x1_3 := x1.cell3
   go_wp2_with fail
   refine (K_Is (Ja.out.below hwz)).mono ?_
   rintro e w5 ⟨⟨vr, rfl⟩, hb⟩
   clear c_x0_0 c_x0_1 c_x0_2 c_x0_3 c_x1_0 c_x1_1 c_x1_2 c_x1_3
   replace x0 := x0.below hb
   replace x1 := x1.below hb
   replace y0 := y0.below hb
   replace y1 := y1.below hb
   replace T0 := Hi (T0.out.below hb)
   replace T1 := Hi (T1.out.below hb)
   replace HROW := Hi (HROW.out.below hb)
   have hw1_ := bt hwz hb
   clear hb hwz
   have c_x0_0 := x0.cell0
   have c_x0_1 := x0.cell1
   have c_x0_2 := x0.cell2
   have c_x0_3 := x0.cell3
   have c_x1_0 := x1.cell0
   have c_x1_1 := x1.cell1
   have c_x1_2 := x1.cell2
   have c_x1_3 := x1.cell3
   go_wp2_with fail
   refine (K_Make (Ja.out.below hw1_) (Jb.out.below hw1_)).mono ?_
   rintro e w6 ⟨⟨vr, rfl⟩, hb⟩
   clear c_x0_0 c_x0_1 c_x0_2 c_x0_3 c_x1_0 c_x1_1 c_x1_2 c_x1_3
   replace x0 := x0.below hb
   replace x1 := x1.below hb
   replace y0 := y0.below hb
   replace y1 := y1.below hb
   replace T0 := Hi (T0.out.below hb)
   replace T1 := Hi (T1.out.below hb)
   replace HROW := Hi (HROW.out.below hb)
   have hw2_ := bt hw1_ hb
   clear hb hw1_
   have c_x0_0 := x0.cell0
   have c_x0_1 := x0.cell1
   have c_x0_2 := x0.cell2
   have c_x0_3 := x0.cell3
   have c_x1_0 := x1.cell0
   have c_x1_1 := x1.cell1
   have c_x1_2 := x1.cell2
   have c_x1_3 := x1.cell3
   go_wp2_with fail
   refine (K_Whole (Ja.out.below hw2_)).mono ?_
   rintro e w7 ⟨⟨vr, rfl⟩, hb⟩
   clear c_x0_0 c_x0_1 c_x0_2 c_x0_3 c_x1_0 c_x1_1 c_x1_2 c_x1_3
   replace x0 := x0.below hb
   replace x1 := x1.below hb
   replace y0 := y0.below hb
   replace y1 := y1.below hb
   replace T0 := Hi (T0.out.below hb)
   replace T1 := Hi (T1.out.below hb)
   replace HROW := Hi (HROW.out.below hb)
   have hw3_ := bt hw2_ hb
   clear hb hw2_
   have c_x0_0 := x0.cell0
   have c_x0_1 := x0.cell1
   have c_x0_2 := x0.cell2
   have c_x0_3 := x0.cell3
   have c_x1_0 := x1.cell0
   have c_x1_1 := x1.cell1
   have c_x1_2 := x1.cell2
   have c_x1_3 := x1.cell3
   go_wp2_with fail
   refine (K_Sign (Ja.out.below hw3_)).mono ?_
   rintro e w8 ⟨⟨vr, rfl⟩, hb⟩
   clear c_x0_0 c_x0_1 c_x0_2 c_x0_3 c_x1_0 c_x1_1 c_x1_2 c_x1_3
   replace x0 := x0.below hb
   replace x1 := x1.below hb
   replace y0 := y0.below hb
   replace y1 := y1.below hb
   replace T0 := Hi (T0.out.below hb)
   replace T1 := Hi (T1.out.below hb)
   replace HROW := Hi (HROW.out.below hb)
   have hw4_ := bt hw3_ hb
   clear hb hw3_
   have c_x0_0 := x0.cell0
   have c_x0_1 := x0.cell1
   have c_x0_2 := x0.cell2
   have c_x0_3 := x0.cell3
   have c_x1_0 := x1.cell0
   have c_x1_1 := x1.cell1
   have c_x1_2 := x1.cell2
   have c_x1_3 := x1.cell3
   go_wp2_with fail
   refine (K_Cmp (Ja.out.below hw4_) (Jb.out.below hw4_)).mono ?_
   rintro e w9 ⟨⟨vr, rfl⟩, hb⟩
   clear c_x0_0 c_x0_1 c_x0_2 c_x0_3 c_x1_0 c_x1_1 c_x1_2 c_x1_3
   replace x0 := x0.below hb
   replace x1 := x1.below hb
   replace y0 := y0.below hb
   replace y1 := y1.below hb
   replace T0 := Hi (T0.out.below hb)
   replace T1 := Hi (T1.out.below hb)
   replace HROW := Hi (HROW.out.below hb)
   have hw5_ := bt hw4_ hb
   clear hb hw4_
   have c_x0_0 := x0.cell0
   have c_x0_1 := x0.cell1
   have c_x0_2 := x0.cell2
   have c_x0_3 := x0.cell3
   have c_x1_0 := x1.cell0
   have c_x1_1 := x1.cell1
   have c_x1_2 := x1.cell2
   have c_x1_3 := x1.cell3
   go_wp2_with fail
   refine (K_Neg (Ja.out.below hw5_)).mono ?_
   rintro e w10 ⟨⟨vr, rfl⟩, hb⟩
   clear c_x0_0 c_x0_1 c_x0_2 c_x0_3 c_x1_0 c_x1_1 c_x1_2 c_x1_3
   replace x0 := x0.below hb
   replace x1 := x1.below hb
   replace y0 := y0.below hb
   replace y1 := y1.below hb
   replace T0 := Hi (T0.out.below hb)
   replace T1 := Hi (T1.out.below hb)
   replace HROW := Hi (HROW.out.below hb)
   have hw6_ := bt hw5_ hb
   clear hb hw5_
   have c_x0_0 := x0.cell0
   have c_x0_1 := x0.cell1
   have c_x0_2 := x0.cell2
   have c_x0_3 := x0.cell3
   have c_x1_0 := x1.cell0
   have c_x1_1 := x1.cell1
   have c_x1_2 := x1.cell2
   have c_x1_3 := x1.cell3
   go_wp2_with fail
   refine (K_Add (Ja.out.below hw6_) (Jb.out.below hw6_)).mono ?_
   rintro e w11 ⟨⟨vr, rfl⟩, hb⟩
   clear c_x0_0 c_x0_1 c_x0_2 c_x0_3 c_x1_0 c_x1_1 c_x1_2 c_x1_3
   replace x0 := x0.below hb
   replace x1 := x1.below hb
   replace y0 := y0.below hb
   replace y1 := y1.below hb
   replace T0 := Hi (T0.out.below hb)
   replace T1 := Hi (T1.out.below hb)
   replace HROW := Hi (HROW.out.below hb)
   have hw7_ := bt hw6_ hb
   clear hb hw6_
   have c_x0_0 := x0.cell0
   have c_x0_1 := x0.cell1
   have c_x0_2 := x0.cell2
   have c_x0_3 := x0.cell3
   have c_x1_0 := x1.cell0
   have c_x1_1 := x1.cell1
   have c_x1_2 := x1.cell2
   have c_x1_3 := x1.cell3
   go_wp2_with fail
   refine (K_Sub (Ja.out.below hw7_) (Jb.out.below hw7_)).mono ?_
   rintro e w12 ⟨⟨vr, rfl⟩, hb⟩
   clear c_x0_0 c_x0_1 c_x0_2 c_x0_3 c_x1_0 c_x1_1 c_x1_2 c_x1_3
   replace x0 := x0.below hb
   replace x1 := x1.below hb
   replace y0 := y0.below hb
   replace y1 := y1.below hb
   replace T0 := Hi (T0.out.below hb)
   replace T1 := Hi (T1.out.below hb)
   replace HROW := Hi (HROW.out.below hb)
   have hw8_ := bt hw7_ hb
   clear hb hw7_
   have c_x0_0 := x0.cell0
   have c_x0_1 := x0.cell1
   have c_x0_2 := x0.cell2
   have c_x0_3 := x0.cell3
   have c_x1_0 := x1.cell0
   have c_x1_1 := x1.cell1
   have c_x1_2 := x1.cell2
   have c_x1_3 := x1.cell3
   go_wp2_with fail
   refine (K_Mul (Ja.out.below hw8_) (Jb.out.below hw8_)).mono ?_
   rintro e w13 ⟨⟨vr, rfl⟩, hb⟩
   clear c_x0_0 c_x0_1 c_x0_2 c_x0_3 c_x1_0 c_x1_1 c_x1_2 c_x1_3
   replace x0 := x0.below hb
   replace x1 := x1.below hb
   replace y0 := y0.below hb
   replace y1 := y1.below hb
   replace T0 := Hi (T0.out.below hb)
   replace T1 := Hi (T1.out.below hb)
   replace HROW := Hi (HROW.out.below hb)
   have hw9_ := bt hw8_ hb
   clear hb hw8_
   have c_x0_0 := x0.cell0
   have c_x0_1 := x0.cell1
   have c_x0_2 := x0.cell2
   have c_x0_3 := x0.cell3
   have c_x1_0 := x1.cell0
   have c_x1_1 := x1.cell1
   have c_x1_2 := x1.cell2
   have c_x1_3 := x1.cell3
   go_wp2_with fail
   refine (K_Div (Ja.out.below hw9_) (Jb.out.below hw9_)).mono ?_
   rintro e w14 ⟨⟨vr, rfl⟩, hb⟩
   clear c_x0_0 c_x0_1 c_x0_2 c_x0_3 c_x1_0 c_x1_1 c_x1_2 c_x1_3
   replace x0 := x0.below hb
   replace x1 := x1.below hb
   replace y0 := y0.below hb
   replace y1 := y1.below hb
   replace T0 := Hi (T0.out.below hb)
   replace T1 := Hi (T1.out.below hb)
   replace HROW := Hi (HROW.out.below hb)
   have hw10_ := bt hw9_ hb
   clear hb hw9_
   have c_x0_0 := x0.cell0
   have c_x0_1 := x0.cell1
   have c_x0_2 := x0.cell2
   have c_x0_3 := x0.cell3
   have c_x1_0 := x1.cell0
   have c_x1_1 := x1.cell1
   have c_x1_2 := x1.cell2
   have c_x1_3 := x1.cell3
   go_wp2_with fail
   refine (K_Pow (Ja.out.below hw10_) HQ8.out.2).mono ?_
   rintro e w15 ⟨⟨vr, rfl⟩, hb⟩
   clear c_x0_0 c_x0_1 c_x0_2 c_x0_3 c_x1_0 c_x1_1 c_x1_2 c_x1_3
   replace x0 := x0.below hb
   replace x1 := x1.below hb
   replace y0 := y0.below hb
   replace y1 := y1.below hb
   replace T0 := Hi (T0.out.below hb)
   replace T1 := Hi (T1.out.below hb)
   replace HROW := Hi (HROW.out.below hb)
   have hw11_ := bt hw10_ hb
   clear hb hw10_
   have c_x0_0 := x0.cell0
   have c_x0_1 := x0.cell1
   have c_x0_2 := x0.cell2
   have c_x0_3 := x0.cell3
   have c_x1_0 := x1.cell0
   have c_x1_1 := x1.cell1
   have c_x1_2 := x1.cell2
   have c_x1_3 := x1.cell3
   go_wp2_with fail
   refine (K_Floor (Ja.out.below hw11_)).mono ?_
   rintro e w16 ⟨⟨vr, rfl⟩, hb⟩
   clear c_x0_0 c_x0_1 c_x0_2 c_x0_3 c_x1_0 c_x1_1 c_x1_2 c_x1_3
   replace x0 := x0.below hb
   replace x1 := x1.below hb
   replace y0 := y0.below hb
   replace y1 := y1.below hb
   replace T0 := Hi (T0.out.below hb)
   replace T1 := Hi (T1.out.below hb)
   replace HROW := Hi (HROW.out.below hb)
   have hw12_ := bt hw11_ hb
   clear hb hw11_
   have c_x0_0 := x0.cell0
   have c_x0_1 := x0.cell1
   have c_x0_2 := x0.cell2
   have c_x0_3 := x0.cell3
   have c_x1_0 := x1.cell0
   have c_x1_1 := x1.cell1
   have c_x1_2 := x1.cell2
   have c_x1_3 := x1.cell3
   go_wp2_with fail
   refine (K_Common (H.out.below hw12_) (by have := HQ8.out; omega) (fun i hi => by obtain ⟨q, hq⟩ := JL.out i hi; exact ⟨q, hq.below hw12_⟩)).mono ?_
   rintro e w17 ⟨⟨vr, rfl⟩, hb⟩
   clear c_x0_0 c_x0_1 c_x0_2 c_x0_3 c_x1_0 c_x1_1 c_x1_2 c_x1_3
   replace x0 := x0.below hb
   replace x1 := x1.below hb
   replace y0 := y0.below hb
   replace y1 := y1.below hb
   replace T0 := Hi (T0.out.below hb)
   replace T1 := Hi (T1.out.below hb)
   replace HROW := Hi (HROW.out.below hb)
   have hw13_ := bt hw12_ hb
   clear hb hw12_
   have c_x0_0 := x0.cell0
   have c_x0_1 := x0.cell1
   have c_x0_2 := x0.cell2
   have c_x0_3 := x0.cell3
   have c_x1_0 := x1.cell0
   have c_x1_1 := x1.cell1
   have c_x1_2 := x1.cell2
   have c_x1_3 := x1.cell3
   go_wp2_with fail
   refine (K_Sim (Ja.out.below hw13_) (Jb.out.below hw13_)).mono ?_
   rintro e w18 ⟨⟨vr, rfl⟩, hb⟩
   clear c_x0_0 c_x0_1 c_x0_2 c_x0_3 c_x1_0 c_x1_1 c_x1_2 c_x1_3
   replace x0 := x0.below hb
   replace x1 := x1.below hb
   replace y0 := y0.below hb
   replace y1 := y1.below hb
   replace T0 := Hi (T0.out.below hb)
   replace T1 := Hi (T1.out.below hb)
   replace HROW := Hi (HROW.out.below hb)
   have hw14_ := bt hw13_ hb
   clear hb hw13_
   have c_x0_0 := x0.cell0
   have c_x0_1 := x0.cell1
   have c_x0_2 := x0.cell2
   have c_x0_3 := x0.cell3
   have c_x1_0 := x1.cell0
   have c_x1_1 := x1.cell1
   have c_x1_2 := x1.cell2
   have c_x1_3 := x1.cell3
   go_wp2_with fail
   refine (K_Print (Ja.out.below hw14_) (HTn.out.below hw14_)).mono ?_
   rintro e w19 ⟨⟨vr, rfl⟩, hb⟩
   clear c_x0_0 c_x0_1 c_x0_2 c_x0_3 c_x1_0 c_x1_1 c_x1_2 c_x1_3
   replace x0 := x0.below hb
   replace x1 := x1.below hb
   replace y0 := y0.below hb
   replace y1 := y1.below hb
   replace T0 := Hi (T0.out.below hb)
   replace T1 := Hi (T1.out.below hb)
   replace HROW := Hi (HROW.out.below hb)
   have hw15_ := bt hw14_ hb
   clear hb hw14_
   have c_x0_0 := x0.cell0
   have c_x0_1 := x0.cell1
   have c_x0_2 := x0.cell2
   have c_x0_3 := x0.cell3
   have c_x1_0 := x1.cell0
   have c_x1_1 := x1.cell1
   have c_x1_2 := x1.cell2
   have c_x1_3 := x1.cell3
   go_wp2_with fail
   refine (sane2 _ (HTn.out.below hw15_)).mono ?_
   rintro e w20 ⟨rfl, hb⟩
   clear c_x0_0 c_x0_1 c_x0_2 c_x0_3 c_x1_0 c_x1_1 c_x1_2 c_x1_3
   replace x0 := x0.below hb
   replace x1 := x1.below hb
   replace y0 := y0.below hb
   replace y1 := y1.below hb
   replace T0 := Hi (T0.out.below hb)
   replace T1 := Hi (T1.out.below hb)
   replace HROW := Hi (HROW.out.below hb)
   have hw16_ := bt hw15_ hb
   clear hb hw15_
   have c_x0_0 := x0.cell0
   have c_x0_1 := x0.cell1
   have c_x0_2 := x0.cell2
   have c_x0_3 := x0.cell3
   have c_x1_0 := x1.cell0
   have c_x1_1 := x1.cell1
   have c_x1_2 := x1.cell2
   have c_x1_3 := x1.cell3
   have c_y0_0 := y0.cell0
   have c_y0_1 := y0.cell1
   have c_y0_2 := y0.cell2
   have c_y0_3 := y0.cell3
   have c_y1_0 := y1.cell0
   have c_y1_1 := y1.cell1
   have c_y1_2 := y1.cell2
   have c_y1_3 := y1.cell3
   go_wp2_with fail
   refine (RStaysQ (o := none) (Ja.out.below hw16_).num.ws (Ja.out.below hw16_).den.ws (by have h1 := Ja.out.num.len; have h2 := Ja.out.den.len; omega) T0.out).mono ?_
   rintro e w21 ⟨rfl, hb⟩
   clear c_x0_0 c_x0_1 c_x0_2 c_x0_3 c_x1_0 c_x1_1 c_x1_2 c_x1_3 c_y0_0 c_y0_1 c_y0_2 c_y0_3 c_y1_0 c_y1_1 c_y1_2 c_y1_3
   replace x0 := x0.below hb
   replace x1 := x1.below hb
   replace y0 := y0.below hb
   replace y1 := y1.below hb
   replace T0 := Hi (T0.out.below hb)
   replace T1 := Hi (T1.out.below hb)
   replace HROW := Hi (HROW.out.below hb)
   have hw17_ := bt hw16_ hb
   clear hb hw16_
   have c_x0_0 := x0.cell0
   have c_x0_1 := x0.cell1
   have c_x0_2 := x0.cell2
   have c_x0_3 := x0.cell3
   have c_x1_0 := x1.cell0
   have c_x1_1 := x1.cell1
   have c_x1_2 := x1.cell2
   have c_x1_3 := x1.cell3
   have c_y0_0 := y0.cell0
   have c_y0_1 := y0.cell1
   have c_y0_2 := y0.cell2
   have c_y0_3 := y0.cell3
   have c_y1_0 := y1.cell0
   have c_y1_1 := y1.cell1
   have c_y1_2 := y1.cell2
   have c_y1_3 := y1.cell3
   go_wp2_with fail
   refine (RStaysQ (o := none) (Jb.out.below hw17_).num.ws (Jb.out.below hw17_).den.ws (by have h1 := Jb.out.num.len; have h2 := Jb.out.den.len; omega) T1.out).mono ?_
   rintro e w22 ⟨rfl, hb⟩
   clear c_x0_0 c_x0_1 c_x0_2 c_x0_3 c_x1_0 c_x1_1 c_x1_2 c_x1_3 c_y0_0 c_y0_1 c_y0_2 c_y0_3 c_y1_0 c_y1_1 c_y1_2 c_y1_3
   replace x0 := x0.below hb
   replace x1 := x1.below hb
   replace y0 := y0.below hb
   replace y1 := y1.below hb
   replace T0 := Hi (T0.out.below hb)
   replace T1 := Hi (T1.out.below hb)
   replace HROW := Hi (HROW.out.below hb)
   have hw18_ := bt hw17_ hb
   clear hb hw17_
   have c_x0_0 := x0.cell0
   have c_x0_1 := x0.cell1
   have c_x0_2 := x0.cell2
   have c_x0_3 := x0.cell3
   have c_x1_0 := x1.cell0
   have c_x1_1 := x1.cell1
   have c_x1_2 := x1.cell2
   have c_x1_3 := x1.cell3
   have c_y0_0 := y0.cell0
   have c_y0_1 := y0.cell1
   have c_y0_2 := y0.cell2
   have c_y0_3 := y0.cell3
   have c_y1_0 := y1.cell0
   have c_y1_1 := y1.cell1
   have c_y1_2 := y1.cell2
   have c_y1_3 := y1.cell3
   go_wp2_with fail
   refine (StayAll_any _ (H.out.below hw18_) HROW.out hbl (by have := HQ8.out; omega) (fun i hi => by
    obtain ⟨q, hq⟩ := JL.out i hi
    have h1 := hq.num.len
    have h2 := hq.den.len
    omega)).mono ?_
   rintro e w23 ⟨rfl, hb⟩
   clear c_x0_0 c_x0_1 c_x0_2 c_x0_3 c_x1_0 c_x1_1 c_x1_2 c_x1_3 c_y0_0 c_y0_1 c_y0_2 c_y0_3 c_y1_0 c_y1_1 c_y1_2 c_y1_3
   replace x0 := x0.below hb
   replace x1 := x1.below hb
   replace y0 := y0.below hb
   replace y1 := y1.below hb
   replace T0 := Hi (T0.out.below hb)
   replace T1 := Hi (T1.out.below hb)
   replace HROW := Hi (HROW.out.below hb)
   have hw19_ := bt hw18_ hb
   clear hb hw18_
   go_wp2_with fail
   go_ret
   exact ⟨rfl, hw19_⟩
end Go.Proofs.YtgljdfblgpdaaaaGreatDoor
