import Derived.Test.YtgljdfblgpdaaaaGreatDoorPbRefI
import Derived.Test.YtgljdfblgpdaaaaGreatDoorPbRefX
import Derived.Test.YtgljdfblgpdaaaaGreatDoorSiRefV
set_option linter.unusedSimpArgs false
set_option linter.unusedVariables false
set_option maxRecDepth 100000
set_option maxHeartbeats 4000000
namespace Go.Proofs.YtgljdfblgpdaaaaGreatDoor
open Go.RowKit Go.Shelf
variable {A : Option Addr} {c : Nat} {er x y z : Int} {l : List Nat} {n : Bool}
theorem den_gt (q : Rat) : (0 : Int) < q.den := by have := q.den_nz; omega
theorem can_rat (q : Rat) : Can q.num q.den := ⟨den_gt q, by have := q.reduced; simpa [Nat.Coprime] using this⟩
theorem rat_of_can (h : Can x y) : ∃ q : Rat, q.num = x ∧ (q.den : Int) = y :=
 ⟨⟨x, y.toNat, by have := h.1; omega, by have := h.2; have h1 := h.1; rw [Nat.Coprime, show y.toNat = y.natAbs by omega]; exact this⟩, rfl, by have := h.1; show ((y.toNat : Nat) : Int) = y; omega⟩
def cmpQ (q r : Rat) : Int := if q < r then -1 else if q = r then 0 else 1
theorem cmp_rat (q r : Rat) : cmpI (q.num * r.den) (r.num * q.den) = cmpQ q r := by
 unfold cmpI cmpQ
 by_cases h : q < r
 ·rw [if_pos h, if_pos ((Rat.lt_iff q r).1 h)]
 ·rw [if_neg h, if_neg (fun h' => h ((Rat.lt_iff q r).2 h'))]
  by_cases h2 : q = r
  ·rw [if_pos h2, if_pos (Rat.eq_iff_mul_eq_mul.1 h2)]
  ·rw [if_neg h2, if_neg (fun h' => h2 (Rat.eq_iff_mul_eq_mul.2 h'))]
theorem cmpQ_le {q r : Rat} (h : q ≤ r) : cmpQ q r ≤ 0 := by
 unfold cmpQ
 split
 ·decide
 ·split
  ·decide
  ·grind
theorem cmpQ_gt {q r : Rat} (h : r < q) : cmpQ q r = 1 := by
 unfold cmpQ
 split
 ·grind
 ·split
  ·grind
  ·rfl
theorem cmpI_lt (h : x < y) : cmpI x y = -1 := by unfold cmpI; rw [if_pos h]
theorem cmpI_eq (h : x = y) : cmpI x y = 0 := by unfold cmpI; rw [if_neg (by omega), if_pos h]
theorem cmpI_nonpos (h : x ≤ y) : cmpI x y ≤ 0 := by unfold cmpI; split; decide; split; decide; omega
structure QW where
 n : Bool
 A : Option Addr
 c : Nat
 l : List Nat
 m : Bool
 B : Option Addr
 d : Nat
 k : List Nat
structure ZW where
 n : Bool
 A : Option Addr
 c : Nat
 l : List Nat
structure QV (M : Nat) (W : World) (a : QW) (q : Rat) : Prop where
 num : JV M W a.n a.A a.c a.l q.num
 den : JV M W a.m a.B a.d a.k (q.den : Int)
def ZV (M : Nat) (W : World) (a : ZW) (z : Int) : Prop := JV M W a.n a.A a.c a.l z
theorem ZV.below {M : Nat} {W W' : World} {a : ZW} (h : ZV M W a z) (hb : Below W.heap.size W W') : ZV M W' a z := JV.below h hb
section
variable {M N i j : Nat} {W W' w w' : World} {a b : QW} {q r : Rat} {e : Ending}
theorem QV.below (h : QV M W a q) (hb : Below W.heap.size W W') : QV M W' a q := ⟨h.num.below hb, h.den.below hb⟩
theorem QV.mono (h : QV M W a q) (hM : M ≤ N) : QV N W a q := ⟨h.num.mono hM, h.den.mono hM⟩
theorem JV.lt (h : JV M W n A c l z) : Lt M z := lt_le (lt_val h.ws h.val) h.len
theorem JV.iv' (h : JV M W n A c l z) (hM : M ≤ 300) : IV W n A c l z := ⟨h.cap, h.ws, h.can, h.val, Nat.le_trans h.len hM⟩
theorem IV.jv' (h : IV W n A c l z) (hz : Lt M z) : JV M W n A c l z :=
 ⟨h.cap, h.ws, h.can, h.val, top_len (isB_top h.can) (by rw [val_abs h.val]; exact hz)⟩
theorem JV.fit (h : JV N W n A c l z) (hz : Lt M z) : JV M W n A c l z :=
 ⟨h.cap, h.ws, h.can, h.val, top_len (isB_top h.can) (by rw [val_abs h.val]; exact hz)⟩
theorem QV.i1 (h : QV M W a q) (hM : M ≤ 120) : IV W a.n a.A a.c a.l q.num := h.num.iv' (by omega)
theorem QV.i2 (h : QV M W a q) (hM : M ≤ 120) : IV W a.m a.B a.d a.k (q.den : Int) := h.den.iv' (by omega)
theorem QV.l1 (h : QV M W a q) (hM : M ≤ 120) : Lt 120 q.num := lt_le h.num.lt hM
theorem QV.l2 (h : QV M W a q) (hM : M ≤ 120) : Lt 120 (q.den : Int) := lt_le h.den.lt hM
def RQ (M : Nat) (w : World) (q : Rat) (e : Ending) (w' : World) : Prop := ∃ a : QW, e = .returned (.agg #[.bool a.n, .slice a.A a.l.length a.c, .bool a.m, .slice a.B a.k.length a.d]) ∧ QV M w' a q ∧ Below w.heap.size w w'
def RQX (M : Nat) (w : World) (q : Rat) (er : Int) (e : Ending) (w' : World) : Prop := ∃ a : QW, e = .returned (.tuple #[.agg #[.bool a.n, .slice a.A a.l.length a.c, .bool a.m, .slice a.B a.k.length a.d], .int .i64 er]) ∧ QV M w' a q ∧ Below w.heap.size w w'
def RZ (M : Nat) (w : World) (z : Int) (e : Ending) (w' : World) : Prop := ∃ a : ZW, e = .returned (.agg #[.bool a.n, .slice a.A a.l.length a.c]) ∧ ZV M w' a z ∧ Below w.heap.size w w'
theorem m3a7d3 {P : Prop} (h : P := by
 obtain ⟨n, A, c, l, m, B, d, k, he, h1, h2, hb⟩ := h
 subst hx hy
 exact ⟨⟨n, A, c, l, m, B, d, k⟩, he, ⟨h1.jv' l1, h2.jv' l2⟩, hb⟩) : P := h
theorem RIQ.toQ (h : RIQ w x y e w') (hx : q.num = x) (hy : (q.den : Int) = y) (l1 : Lt M x) (l2 : Lt M y) : RQ M w q e w' := by
 exact m3a7d3
theorem RQE.toQ (h : RQE w x y er e w') (hx : q.num = x) (hy : (q.den : Int) = y) (l1 : Lt M x) (l2 : Lt M y) : RQX M w q er e w' := by
 exact m3a7d3
theorem RQJ.toQ (h : RQJ N w x y er e w') (hx : q.num = x) (hy : (q.den : Int) = y) (l1 : Lt M x) (l2 : Lt M y) : RQX M w q er e w' := by
 obtain ⟨n, A, c, l, m, B, d, k, he, h1, h2, hb⟩ := h
 subst hx hy
 exact ⟨⟨n, A, c, l, m, B, d, k⟩, he, ⟨h1.fit l1, h2.fit l2⟩, hb⟩
theorem RIV.toZ {z z' : Int} (h : RIV w z e w') (hz : z = z') (l1 : Lt M z') : RZ M w z' e w' := by
 obtain ⟨n, A, c, l, he, h1, hb⟩ := h
 subst hz
 exact ⟨⟨n, A, c, l⟩, he, h1.jv' l1, hb⟩
theorem QCmp_q (h : QV i w a q) (h2 : QV j w b r) (hi : i ≤ 120) (hj : j ≤ 120) : Calls Tryz.prog 42 #[.agg #[.bool a.n, .slice a.A a.l.length a.c, .bool a.m, .slice a.B a.k.length a.d], .agg #[.bool b.n, .slice b.A b.l.length b.c, .bool b.m, .slice b.B b.k.length b.d]] w fun e w' => e = .returned (.int .i64 (cmpQ q r)) ∧ Below w.heap.size w w' := by
 rw [← cmp_rat]
 exact QCmp_iv (h.i1 hi) (h.i2 hi) (h2.i1 hj) (h2.i2 hj) (h.l1 hi) (h.l2 hi) (h2.l1 hj) (h2.l2 hj)
theorem QSame_q (h : QV i w a q) (h2 : QV j w b q) (hi : i ≤ 300) (hj : j ≤ 300) : Calls Tryz.prog 32 #[.agg #[.bool a.n, .slice a.A a.l.length a.c, .bool a.m, .slice a.B a.k.length a.d], .agg #[.bool b.n, .slice b.A b.l.length b.c, .bool b.m, .slice b.B b.k.length b.d]] w fun e w' => e = .returned (.bool true) ∧ Below w.heap.size w w' :=
 RQSame_iv (h.num.iv' hi) (h.den.iv' hi) (h2.num.iv' hj) (h2.den.iv' hj)
theorem QSame_qe {r : Rat} (h : QV i w a q) (h2 : QV j w b r) (hq : q = r) (hi : i ≤ 300) (hj : j ≤ 300) : Calls Tryz.prog 32 #[.agg #[.bool a.n, .slice a.A a.l.length a.c, .bool a.m, .slice a.B a.k.length a.d], .agg #[.bool b.n, .slice b.A b.l.length b.c, .bool b.m, .slice b.B b.k.length b.d]] w fun e w' => e = .returned (.bool true) ∧ Below w.heap.size w w' := by
 subst hq
 exact QSame_q h h2 hi hj
end
theorem small_q {w : World} {n m : Bool} {A B : Option Addr} {c d : Nat} {l k : List Nat} {N : Nat} (hl : WS w A l) (hk : WS w B k) (hc : l.length ≤ c) (hd : k.length ≤ d)
  (h : (decide (l.length ≤ N) && decide (k.length ≤ N) && isQ n l m k) = true) : ∃ q : Rat, QV N w ⟨n, A, c, l, m, B, d, k⟩ q := by
 obtain ⟨a1, a2, a3, a4, a5⟩ := small_can h
 obtain ⟨q, e1, e2⟩ := rat_of_can a5
 exact ⟨q, ⟨hc, hl, a3, e1.symm, a1⟩, ⟨hd, hk, a4, e2.symm, a2⟩⟩
end Go.Proofs.YtgljdfblgpdaaaaGreatDoor
