import Derived.Test.YtgljdfblgpdaaaaGreatDoorPbRefI
import Derived.Test.YtgljdfblgpdaaaaGreatDoorStRatK
set_option linter.unusedSimpArgs false
set_option linter.unusedVariables false
set_option maxRecDepth 100000
set_option maxHeartbeats 4000000
namespace Go.Proofs.YtgljdfblgpdaaaaGreatDoor
open Go.RowKit Go.Shelf
variable {A : Option Addr} {c : Nat} {er x y z : Int} {l : List Nat} {n : Bool}
theorem f_rat {p q : Int} (hq : q ≠ 0) : (Rat.divInt p q).num = fN p q ∧ ((Rat.divInt p q).den : Int) = fD p q := by
 have hg : Int.gcd q p = Nat.gcd p.natAbs q.natAbs := by rw [Int.gcd, Nat.gcd_comm]
 constructor
 ·rw [Rat.num_divInt, hg]
  unfold fN
  rcases Int.lt_trichotomy q 0 with h | h | h
  ·rw [if_pos h, Int.sign_eq_neg_one_of_neg h]; simp
  ·exact absurd h hq
  ·rw [if_neg (by omega), Int.sign_eq_one_of_pos h]; simp
 ·rw [Rat.den_divInt, if_neg hq, hg]
  unfold fD
  simp
theorem rat_add (q r : Rat) : q + r = Rat.divInt (q.num * r.den + r.num * q.den) (q.den * r.den) := by
 rw [Rat.add_def', ← Rat.divInt_ofNat]; simp
theorem rat_sub (q r : Rat) : q - r = Rat.divInt (q.num * r.den - r.num * q.den) (q.den * r.den) := by
 rw [Rat.sub_def', ← Rat.divInt_ofNat]; simp
theorem rat_mul (q r : Rat) : q * r = Rat.divInt (q.num * r.num) (q.den * r.den) := by
 rw [Rat.mul_def', ← Rat.divInt_ofNat]; simp
theorem rat_div (q r : Rat) : q / r = Rat.divInt (q.num * r.den) (q.den * r.num) := by
 rw [Rat.div_def, Rat.inv_def]
 conv => lhs; lhs; rw [← Rat.num_divInt_den q]
 rw [Rat.divInt_mul_divInt]
theorem den_ne (q : Rat) : (q.den : Int) ≠ 0 := by have := q.den_nz; omega
theorem den_gt (q : Rat) : (0 : Int) < q.den := by have := q.den_nz; omega
theorem can_rat (q : Rat) : Can q.num q.den := ⟨den_gt q, by have := q.reduced; simpa [Nat.Coprime] using this⟩
theorem rat_of_can (h : Can x y) : ∃ q : Rat, q.num = x ∧ (q.den : Int) = y :=
 ⟨⟨x, y.toNat, by have := h.1; omega, by have := h.2; have h1 := h.1; rw [Nat.Coprime, show y.toNat = y.natAbs by omega]; exact this⟩, rfl, by have := h.1; show ((y.toNat : Nat) : Int) = y; omega⟩
def cmpQ (q r : Rat) : Int := if q < r then -1 else if q = r then 0 else 1
theorem cmp_rat (q r : Rat) : cmpI (q.num * r.den) (r.num * q.den) = cmpQ q r := by
 unfold cmpI cmpQ
 by_cases h : q < r
 ·rw [if_pos h, if_pos ((Rat.lt_iff q r).1 h)]
 ·rw [if_neg h, if_neg (fun h' => h ((Rat.lt_iff q r).2 h'))]
  by_cases h2 : q = r
  ·rw [if_pos h2, if_pos (Rat.eq_iff_mul_eq_mul.1 h2)]
  ·rw [if_neg h2, if_neg (fun h' => h2 (Rat.eq_iff_mul_eq_mul.2 h'))]
theorem sgn_rat (q : Rat) : cmpI q.num 0 = cmpQ q 0 := by
 have := cmp_rat q 0
 simpa using this
theorem npow_add (q : Rat) (m n : Nat) : q ^ (m + n) = q ^ m * q ^ n := by
 induction n with
 | zero => simp
 | succ n ih => rw [← Nat.add_assoc, Rat.pow_succ, ih, Rat.pow_succ, Rat.mul_assoc]
theorem npow_mul (q : Rat) (m n : Nat) : q ^ (m * n) = (q ^ m) ^ n := by
 induction n with
 | zero => simp
 | succ n ih => rw [Nat.mul_succ, npow_add, ih, Rat.pow_succ]
theorem mul_npow (q r : Rat) (n : Nat) : (q * r) ^ n = q ^ n * r ^ n := by
 induction n with
 | zero => simp
 | succ n ih => rw [Rat.pow_succ, ih, Rat.pow_succ, Rat.pow_succ]; grind
theorem inv_npow (q : Rat) (n : Nat) : (q⁻¹) ^ n = (q ^ n)⁻¹ := by
 by_cases h : q = 0
 ·subst h
  cases n with
  | zero => rw [Rat.pow_zero, Rat.pow_zero]; exact (Rat.inv_eq_of_mul_eq_one (Rat.mul_one 1)).symm
  | succ n => rw [Rat.pow_succ, Rat.pow_succ]; simp
 ·refine (Rat.inv_eq_of_mul_eq_one ?_).symm
  rw [← mul_npow, Rat.mul_inv_cancel q h]
  induction n with
  | zero => simp
  | succ n ih => rw [Rat.pow_succ, ih]; simp
theorem zpow_mul' (q : Rat) (m n : Int) : q ^ (m * n) = (q ^ m) ^ n := by
 obtain ⟨a, rfl | rfl⟩ := m.eq_nat_or_neg <;> obtain ⟨b, rfl | rfl⟩ := n.eq_nat_or_neg
 ·rw [show ((a : Int) * (b : Int)) = ((a * b : Nat) : Int) by have := Int.natCast_mul a b; grind, Rat.zpow_natCast, Rat.zpow_natCast, Rat.zpow_natCast, npow_mul]
 ·rw [show ((a : Int) * -(b : Int)) = -((a * b : Nat) : Int) by have := Int.natCast_mul a b; grind, Rat.zpow_neg, Rat.zpow_neg, Rat.zpow_natCast, Rat.zpow_natCast, Rat.zpow_natCast, npow_mul]
 ·rw [show (-(a : Int) * (b : Int)) = -((a * b : Nat) : Int) by have := Int.natCast_mul a b; grind, Rat.zpow_neg, Rat.zpow_neg, Rat.zpow_natCast, Rat.zpow_natCast, Rat.zpow_natCast, npow_mul, inv_npow]
 ·rw [show (-(a : Int) * -(b : Int)) = ((a * b : Nat) : Int) by have := Int.natCast_mul a b; grind, Rat.zpow_neg, Rat.zpow_neg, Rat.zpow_natCast, Rat.zpow_natCast, Rat.zpow_natCast, npow_mul, inv_npow, Rat.inv_inv]
structure QW where
 n : Bool
 A : Option Addr
 c : Nat
 l : List Nat
 m : Bool
 B : Option Addr
 d : Nat
 k : List Nat
structure ZW where
 n : Bool
 A : Option Addr
 c : Nat
 l : List Nat
structure QV (M : Nat) (W : World) (a : QW) (q : Rat) : Prop where
 num : JV M W a.n a.A a.c a.l q.num
 den : JV M W a.m a.B a.d a.k (q.den : Int)
def ZV (M : Nat) (W : World) (a : ZW) (z : Int) : Prop := JV M W a.n a.A a.c a.l z
theorem ZV.below {M : Nat} {W W' : World} {a : ZW} (h : ZV M W a z) (hb : Below W.heap.size W W') : ZV M W' a z := JV.below h hb
section
variable {M N i j : Nat} {W W' w w' : World} {a b : QW} {q r : Rat} {e : Ending}
theorem QV.below (h : QV M W a q) (hb : Below W.heap.size W W') : QV M W' a q := ⟨h.num.below hb, h.den.below hb⟩
theorem QV.mono (h : QV M W a q) (hM : M ≤ N) : QV N W a q := ⟨h.num.mono hM, h.den.mono hM⟩
theorem JV.lt (h : JV M W n A c l z) : Lt M z := lt_le (lt_val h.ws h.val) h.len
theorem JV.iv' (h : JV M W n A c l z) (hM : M ≤ 300) : IV W n A c l z := ⟨h.cap, h.ws, h.can, h.val, Nat.le_trans h.len hM⟩
theorem IV.jv' (h : IV W n A c l z) (hz : Lt M z) : JV M W n A c l z :=
 ⟨h.cap, h.ws, h.can, h.val, top_len (isB_top h.can) (by rw [val_abs h.val]; exact hz)⟩
theorem JV.fit (h : JV N W n A c l z) (hz : Lt M z) : JV M W n A c l z :=
 ⟨h.cap, h.ws, h.can, h.val, top_len (isB_top h.can) (by rw [val_abs h.val]; exact hz)⟩
theorem QV.i1 (h : QV M W a q) (hM : M ≤ 120) : IV W a.n a.A a.c a.l q.num := h.num.iv' (by omega)
theorem QV.i2 (h : QV M W a q) (hM : M ≤ 120) : IV W a.m a.B a.d a.k (q.den : Int) := h.den.iv' (by omega)
theorem QV.l1 (h : QV M W a q) (hM : M ≤ 120) : Lt 120 q.num := lt_le h.num.lt hM
theorem QV.l2 (h : QV M W a q) (hM : M ≤ 120) : Lt 120 (q.den : Int) := lt_le h.den.lt hM
def RQ (M : Nat) (w : World) (q : Rat) (e : Ending) (w' : World) : Prop := ∃ a : QW, e = .returned (.agg #[.bool a.n, .slice a.A a.l.length a.c, .bool a.m, .slice a.B a.k.length a.d]) ∧ QV M w' a q ∧ Below w.heap.size w w'
def RQX (M : Nat) (w : World) (q : Rat) (er : Int) (e : Ending) (w' : World) : Prop := ∃ a : QW, e = .returned (.tuple #[.agg #[.bool a.n, .slice a.A a.l.length a.c, .bool a.m, .slice a.B a.k.length a.d], .int .i64 er]) ∧ QV M w' a q ∧ Below w.heap.size w w'
def RZ (M : Nat) (w : World) (z : Int) (e : Ending) (w' : World) : Prop := ∃ a : ZW, e = .returned (.agg #[.bool a.n, .slice a.A a.l.length a.c]) ∧ ZV M w' a z ∧ Below w.heap.size w w'
theorem m3a7d3 {P : Prop} (h : P := by
 obtain ⟨n, A, c, l, m, B, d, k, he, h1, h2, hb⟩ := h
 subst hx hy
 exact ⟨⟨n, A, c, l, m, B, d, k⟩, he, ⟨h1.jv' l1, h2.jv' l2⟩, hb⟩) : P := h
theorem RIQ.toQ (h : RIQ w x y e w') (hx : q.num = x) (hy : (q.den : Int) = y) (l1 : Lt M x) (l2 : Lt M y) : RQ M w q e w' := by
 exact m3a7d3
theorem RQE.toQ (h : RQE w x y er e w') (hx : q.num = x) (hy : (q.den : Int) = y) (l1 : Lt M x) (l2 : Lt M y) : RQX M w q er e w' := by
 exact m3a7d3
theorem RQJ.toQ (h : RQJ N w x y er e w') (hx : q.num = x) (hy : (q.den : Int) = y) (l1 : Lt M x) (l2 : Lt M y) : RQX M w q er e w' := by
 obtain ⟨n, A, c, l, m, B, d, k, he, h1, h2, hb⟩ := h
 subst hx hy
 exact ⟨⟨n, A, c, l, m, B, d, k⟩, he, ⟨h1.fit l1, h2.fit l2⟩, hb⟩
theorem RIV.toZ {z z' : Int} (h : RIV w z e w') (hz : z = z') (l1 : Lt M z') : RZ M w z' e w' := by
 obtain ⟨n, A, c, l, he, h1, hb⟩ := h
 subst hz
 exact ⟨⟨n, A, c, l⟩, he, h1.jv' l1, hb⟩
theorem lt_fN (hy : y ≠ 0) (h : Lt i x) : Lt i (fN x y) := Nat.lt_of_le_of_lt (fN_abs hy) h
theorem lt_fD (hy : y ≠ 0) (h : Lt i y) : Lt i (fD x y) := Nat.lt_of_le_of_lt (fD_abs hy) h
theorem dens_ne (q r : Rat) : (q.den : Int) * r.den ≠ 0 := Int.mul_ne_zero (den_ne q) (den_ne r)
theorem lt_sum (h : QV i W a q) (h2 : QV j W b r) : Lt (i + j + 1) (q.num * r.den + r.num * q.den) := by
 have h3 := lt_mul h2.num.lt h.den.lt
 rw [Nat.add_comm] at h3
 exact lt_add1 (lt_mul h.num.lt h2.den.lt) h3
theorem lt_dif (h : QV i W a q) (h2 : QV j W b r) : Lt (i + j + 1) (q.num * r.den - r.num * q.den) := by
 have h3 := lt_mul h2.num.lt h.den.lt
 rw [Nat.add_comm] at h3
 rw [Int.sub_eq_add_neg]
 exact lt_add1 (lt_mul h.num.lt h2.den.lt) (lt_neg h3)
theorem QAdd_q (h : QV i w a q) (h2 : QV j w b r) (hi : i ≤ 120) (hj : j ≤ 120) : Calls Tryz.prog 48 #[.agg #[.bool a.n, .slice a.A a.l.length a.c, .bool a.m, .slice a.B a.k.length a.d], .agg #[.bool b.n, .slice b.A b.l.length b.c, .bool b.m, .slice b.B b.k.length b.d]] w (RQ (i + j + 1) w (q + r)) := by
 refine (QAdd_iv (h.i1 hi) (h.i2 hi) (h2.i1 hj) (h2.i2 hj) (can_rat q) (can_rat r) (h.l1 hi) (h.l2 hi) (h2.l1 hj) (h2.l2 hj)).mono fun e w' hr => ?_
 have f := f_rat (p := q.num * r.den + r.num * q.den) (dens_ne q r)
 rw [← rat_add] at f
 exact hr.toQ f.1 f.2 (lt_fN (dens_ne q r) (lt_sum h h2)) (lt_fD (dens_ne q r) (lt_le (lt_mul h.den.lt h2.den.lt) (by omega)))
theorem QSub_q (h : QV i w a q) (h2 : QV j w b r) (hi : i ≤ 120) (hj : j ≤ 120) : Calls Tryz.prog 50 #[.agg #[.bool a.n, .slice a.A a.l.length a.c, .bool a.m, .slice a.B a.k.length a.d], .agg #[.bool b.n, .slice b.A b.l.length b.c, .bool b.m, .slice b.B b.k.length b.d]] w (RQ (i + j + 1) w (q - r)) := by
 refine (QSub_iv (h.i1 hi) (h.i2 hi) (h2.i1 hj) (h2.i2 hj) (can_rat q) (can_rat r) (h.l1 hi) (h.l2 hi) (h2.l1 hj) (h2.l2 hj)).mono fun e w' hr => ?_
 have f := f_rat (p := q.num * r.den - r.num * q.den) (dens_ne q r)
 rw [← rat_sub] at f
 exact hr.toQ f.1 f.2 (lt_fN (dens_ne q r) (lt_dif h h2)) (lt_fD (dens_ne q r) (lt_le (lt_mul h.den.lt h2.den.lt) (by omega)))
theorem QMul_q (h : QV i w a q) (h2 : QV j w b r) (hi : i ≤ 120) (hj : j ≤ 120) : Calls Tryz.prog 52 #[.agg #[.bool a.n, .slice a.A a.l.length a.c, .bool a.m, .slice a.B a.k.length a.d], .agg #[.bool b.n, .slice b.A b.l.length b.c, .bool b.m, .slice b.B b.k.length b.d]] w (RQ (i + j) w (q * r)) := by
 refine (QMul_iv (h.i1 hi) (h.i2 hi) (h2.i1 hj) (h2.i2 hj) (can_rat q) (can_rat r) (h.l1 hi) (h.l2 hi) (h2.l1 hj) (h2.l2 hj)).mono fun e w' hr => ?_
 have f := f_rat (p := q.num * r.num) (dens_ne q r)
 rw [← rat_mul] at f
 exact hr.toQ f.1 f.2 (lt_fN (dens_ne q r) (lt_mul h.num.lt h2.num.lt)) (lt_fD (dens_ne q r) (lt_mul h.den.lt h2.den.lt))
theorem QNeg_q (h : QV i w a q) (hi : i ≤ 120) : Calls Tryz.prog 44 #[.agg #[.bool a.n, .slice a.A a.l.length a.c, .bool a.m, .slice a.B a.k.length a.d]] w (RQ i w (-q)) :=
 (QNeg_iv (h.i1 hi) (h.i2 hi)).mono fun e w' hr => hr.toQ rfl rfl (lt_neg h.num.lt) h.den.lt
theorem rat_ne (hq : r ≠ 0) : (q.den : Int) * r.num ≠ 0 := Int.mul_ne_zero (den_ne q) (fun h => hq (Rat.num_eq_zero.1 h))
theorem QDiv_q (h : QV i w a q) (h2 : QV j w b r) (hi : i ≤ 120) (hj : j ≤ 120) (hr : r ≠ 0) : Calls Tryz.prog 38 #[.agg #[.bool a.n, .slice a.A a.l.length a.c, .bool a.m, .slice a.B a.k.length a.d], .agg #[.bool b.n, .slice b.A b.l.length b.c, .bool b.m, .slice b.B b.k.length b.d]] w (RQX (i + j) w (q / r) 0) := by
 have f := f_rat (p := q.num * r.den) (rat_ne (q := q) hr)
 rw [← rat_div] at f
 rcases Int.lt_trichotomy r.num 0 with h0 | h0 | h0
 ·exact (QDiv_neg (h.i1 hi) (h.i2 hi) (h2.i1 hj) (h2.i2 hj) (can_rat q) (can_rat r) (h.l1 hi) (h.l2 hi) (h2.l1 hj) (h2.l2 hj) h0).mono fun e w' hx =>
   hx.toQ f.1 f.2 (lt_fN (rat_ne hr) (lt_mul h.num.lt h2.den.lt)) (lt_fD (rat_ne hr) (lt_mul h.den.lt h2.num.lt))
 ·exact absurd (Rat.num_eq_zero.1 h0) hr
 ·exact (QDiv_pos (h.i1 hi) (h.i2 hi) (h2.i1 hj) (h2.i2 hj) (can_rat q) (can_rat r) (h.l1 hi) (h.l2 hi) (h2.l1 hj) (h2.l2 hj) h0).mono fun e w' hx =>
   hx.toQ f.1 f.2 (lt_fN (rat_ne hr) (lt_mul h.num.lt h2.den.lt)) (lt_fD (rat_ne hr) (lt_mul h.den.lt h2.num.lt))
theorem QCmp_q (h : QV i w a q) (h2 : QV j w b r) (hi : i ≤ 120) (hj : j ≤ 120) : Calls Tryz.prog 42 #[.agg #[.bool a.n, .slice a.A a.l.length a.c, .bool a.m, .slice a.B a.k.length a.d], .agg #[.bool b.n, .slice b.A b.l.length b.c, .bool b.m, .slice b.B b.k.length b.d]] w fun e w' => e = .returned (.int .i64 (cmpQ q r)) ∧ Below w.heap.size w w' := by
 rw [← cmp_rat]
 exact QCmp_iv (h.i1 hi) (h.i2 hi) (h2.i1 hj) (h2.i2 hj) (h.l1 hi) (h.l2 hi) (h2.l1 hj) (h2.l2 hj)
theorem QSign_q (h : QV i w a q) (hi : i ≤ 120) : Calls Tryz.prog 40 #[.agg #[.bool a.n, .slice a.A a.l.length a.c, .bool a.m, .slice a.B a.k.length a.d]] w fun e w' => e = .returned (.int .i64 (cmpQ q 0)) ∧ Below w.heap.size w w' := by
 rw [← sgn_rat]
 exact QSign_iv (h.i1 hi) (h.i2 hi)
theorem QFloor_q (h : QV i w a q) (hi : i ≤ 120) : Calls Tryz.prog 46 #[.agg #[.bool a.n, .slice a.A a.l.length a.c, .bool a.m, .slice a.B a.k.length a.d]] w (RZ i w q.floor) :=
 (QFloor_iv (h.i1 hi) (h.i2 hi) (den_ne q)).mono fun e w' hr => hr.toZ (Rat.floor_def q).symm (by rw [Rat.floor_def]; exact Nat.lt_of_le_of_lt (Int.natAbs_ediv_le_natAbs _ _) h.num.lt)
end
theorem small_q {w : World} {n m : Bool} {A B : Option Addr} {c d : Nat} {l k : List Nat} {N : Nat} (hl : WS w A l) (hk : WS w B k) (hc : l.length ≤ c) (hd : k.length ≤ d)
  (h : (decide (l.length ≤ N) && decide (k.length ≤ N) && isQ n l m k) = true) : ∃ q : Rat, QV N w ⟨n, A, c, l, m, B, d, k⟩ q := by
 obtain ⟨a1, a2, a3, a4, a5⟩ := small_can h
 obtain ⟨q, e1, e2⟩ := rat_of_can a5
 exact ⟨q, ⟨hc, hl, a3, e1.symm, a1⟩, ⟨hd, hk, a4, e2.symm, a2⟩⟩
end Go.Proofs.YtgljdfblgpdaaaaGreatDoor
