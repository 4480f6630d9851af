import Derived.Test.YtgljdfblgpdaaaaGreatDoorPbNumSpE
import Derived.Test.YtgljdfblgpdaaaaGreatDoorPbNumBackV
set_option linter.unusedSimpArgs false
set_option linter.unusedVariables false
set_option maxRecDepth 100000
set_option maxHeartbeats 4000000
namespace Go.Proofs.YtgljdfblgpdaaaaGreatDoor
open Go.RowKit
variable {a p p' q q' u v x y : Int} {g : Nat}
def Can (p q : Int) : Prop := 0 < q ∧ Nat.gcd p.natAbs q.natAbs = 1
def fN (p q : Int) : Int := (if q < 0 then -p else p) / ((Nat.gcd p.natAbs q.natAbs : Nat) : Int)
def fD (p q : Int) : Int := (q.natAbs : Int) / ((Nat.gcd p.natAbs q.natAbs : Nat) : Int)
theorem can_uniq (h : Can p q) (h' : Can p' q') (e : p * q' = p' * q) : p = p' ∧ q = q' := by
 have e1 := congrArg Int.natAbs e
 rw [Int.natAbs_mul, Int.natAbs_mul] at e1
 have d1 : q.natAbs ∣ q'.natAbs := Nat.Coprime.dvd_of_dvd_mul_left (show Nat.Coprime q.natAbs p.natAbs by rw [Nat.Coprime, Nat.gcd_comm]; exact h.2) ⟨p'.natAbs, by rw [e1, Nat.mul_comm]⟩
 have d2 : q'.natAbs ∣ q.natAbs := Nat.Coprime.dvd_of_dvd_mul_left (show Nat.Coprime q'.natAbs p'.natAbs by rw [Nat.Coprime, Nat.gcd_comm]; exact h'.2) ⟨p.natAbs, by rw [← e1, Nat.mul_comm]⟩
 have e2 := Nat.dvd_antisymm d1 d2
 have h1 := h.1
 have h2 := h'.1
 have e3 : q = q' := by omega
 subst e3
 exact ⟨Int.eq_of_mul_eq_mul_right (by omega) e, rfl⟩
theorem gcd_pos' (hq : q ≠ 0) : 0 < Nat.gcd p.natAbs q.natAbs := Nat.gcd_pos_of_pos_right _ (by omega)
theorem gcd_abs (p q : Int) : Nat.gcd (if q < 0 then -p else p).natAbs q.natAbs = Nat.gcd p.natAbs q.natAbs := by
 split <;> simp
theorem nat_div (h : (g : Int) ∣ a) (hg : 0 < g) : (a / (g : Int)).natAbs = a.natAbs / g := by
 obtain ⟨b, rfl⟩ := h
 rw [Int.mul_ediv_cancel_left _ (by omega), Int.natAbs_mul, Int.natAbs_natCast, Nat.mul_div_cancel_left _ hg]
theorem dvd_gl (p q : Int) : ((Nat.gcd p.natAbs q.natAbs : Nat) : Int) ∣ p := Int.gcd_dvd_left ..
theorem dvd_gr (p q : Int) : ((Nat.gcd p.natAbs q.natAbs : Nat) : Int) ∣ q := Int.gcd_dvd_right ..
theorem fN_mul (hq : q ≠ 0) : fN p q * ((Nat.gcd p.natAbs q.natAbs : Nat) : Int) = (if q < 0 then -p else p) := by
 unfold fN
 refine Int.ediv_mul_cancel ?_
 split
 ·exact Int.dvd_neg.2 (dvd_gl p q)
 ·exact dvd_gl p q
theorem fD_mul (hq : q ≠ 0) : fD p q * ((Nat.gcd p.natAbs q.natAbs : Nat) : Int) = (q.natAbs : Int) := by
 unfold fD
 exact Int.ediv_mul_cancel (Int.dvd_natAbs.2 (dvd_gr p q))
theorem f_cross (hq : q ≠ 0) : fN p q * q = p * fD p q := by
 have h1 := fN_mul (p := p) hq
 have h2 := fD_mul (p := p) hq
 have hg := gcd_pos' (p := p) hq
 refine Int.eq_of_mul_eq_mul_right (show ((Nat.gcd p.natAbs q.natAbs : Nat) : Int) ≠ 0 by omega) ?_
 rw [Int.mul_right_comm, h1, Int.mul_assoc, h2]
 split
 ·rw [show ((q.natAbs : Nat) : Int) = -q by omega, Int.neg_mul, Int.mul_neg]
 ·rw [show ((q.natAbs : Nat) : Int) = q by omega]
theorem can_f (hq : q ≠ 0) : Can (fN p q) (fD p q) := by
 have h1 := fN_mul (p := p) hq
 have h2 := fD_mul (p := p) hq
 have hg := gcd_pos' (p := p) hq
 constructor
 ·rcases Int.lt_or_le 0 (fD p q) with h | h
  ·exact h
  ·have := Int.mul_nonpos_of_nonpos_of_nonneg h (show (0 : Int) ≤ ((Nat.gcd p.natAbs q.natAbs : Nat) : Int) by omega)
   omega
 ·have e3 := gcd_abs p q
  rw [← h1] at e3
  rw [show q.natAbs = (fD p q * ((Nat.gcd p.natAbs q.natAbs : Nat) : Int)).natAbs by rw [h2, Int.natAbs_natCast]] at e3
  obtain ⟨g, hge⟩ : ∃ g, g = Nat.gcd p.natAbs q.natAbs := ⟨_, rfl⟩
  have e4 : Nat.gcd (fN p q * (g : Int)).natAbs (fD p q * (g : Int)).natAbs = g := by
   have h3 : (fD p q * (g : Int)).natAbs = q.natAbs := by rw [hge, h2, Int.natAbs_natCast]
   rw [h3, hge, h1]
   exact gcd_abs p q
  rw [Int.natAbs_mul, Int.natAbs_mul, Int.natAbs_natCast, Nat.gcd_mul_right] at e4
  rw [← hge] at hg
  exact Nat.eq_of_mul_eq_mul_right hg (by rw [e4, Nat.one_mul])
theorem f_eq (h : Can p q) (hq : q' ≠ 0) (e : p * q' = p' * q) : p = fN p' q' ∧ q = fD p' q' := by
 refine can_uniq h (can_f hq) ?_
 have h1 := f_cross (p := p') hq
 refine Int.eq_of_mul_eq_mul_right hq ?_
 rw [Int.mul_right_comm, e, Int.mul_right_comm, ← h1, Int.mul_right_comm]
theorem f_can (h : Can p q) : fN p q = p ∧ fD p q = q := by
 obtain ⟨h1, h2⟩ := f_eq h (by have := h.1; omega) rfl
 exact ⟨h1.symm, h2.symm⟩
theorem cop_div {a b : Int} (h : a ≠ 0 ∨ b ≠ 0) : Nat.gcd (a / ((Nat.gcd a.natAbs b.natAbs : Nat) : Int)).natAbs (b / ((Nat.gcd a.natAbs b.natAbs : Nat) : Int)).natAbs = 1 := by
 have hg : 0 < Nat.gcd a.natAbs b.natAbs := by
  rcases h with h | h
  ·exact Nat.gcd_pos_of_pos_left _ (by omega)
  ·exact Nat.gcd_pos_of_pos_right _ (by omega)
 rw [nat_div (dvd_gl a b) hg, nat_div (dvd_gr a b) hg]
 exact Nat.coprime_div_gcd_div_gcd hg
theorem cop_of_dvd {a b c d : Nat} (h : Nat.gcd a b = 1) (hc : c ∣ a) (hd : d ∣ b) : Nat.gcd c d = 1 := Nat.Coprime.coprime_dvd_left hc (Nat.Coprime.coprime_dvd_right hd h)
theorem abs_div_dvd (h : (g : Int) ∣ a) (hg : 0 < g) : (a / (g : Int)).natAbs ∣ a.natAbs := by
 rw [nat_div h hg]; exact Nat.div_dvd_of_dvd (Int.natAbs_dvd_natAbs.2 h |> fun h => by simpa using h)
theorem mul_can (h : Can x y) (k : Can u v) :
  Can (x / ((Nat.gcd x.natAbs v.natAbs : Nat) : Int) * (u / ((Nat.gcd u.natAbs y.natAbs : Nat) : Int))) (y / ((Nat.gcd u.natAbs y.natAbs : Nat) : Int) * (v / ((Nat.gcd x.natAbs v.natAbs : Nat) : Int))) := by
 have hy := h.1
 have hv := k.1
 obtain ⟨g1, e1⟩ : ∃ g, g = Nat.gcd x.natAbs v.natAbs := ⟨_, rfl⟩
 obtain ⟨g2, e2⟩ : ∃ g, g = Nat.gcd u.natAbs y.natAbs := ⟨_, rfl⟩
 have p1 : 0 < g1 := by rw [e1]; exact gcd_pos' (by omega)
 have p2 : 0 < g2 := by rw [e2]; exact gcd_pos' (by omega)
 have dx : (g1 : Int) ∣ x := by rw [e1]; exact dvd_gl x v
 have dv : (g1 : Int) ∣ v := by rw [e1]; exact dvd_gr x v
 have du : (g2 : Int) ∣ u := by rw [e2]; exact dvd_gl u y
 have dy : (g2 : Int) ∣ y := by rw [e2]; exact dvd_gr u y
 have c1 := cop_div (a := x) (b := v) (.inr (by omega))
 have c2 := cop_div (a := u) (b := y) (.inr (by omega))
 rw [← e1] at c1 ⊢
 rw [← e2] at c2 ⊢
 refine ⟨?_, ?_⟩
 ·have h1 : 0 < y / (g2 : Int) := Int.ediv_pos_of_pos_of_dvd hy (by omega) dy
  have h2 : 0 < v / (g1 : Int) := Int.ediv_pos_of_pos_of_dvd hv (by omega) dv
  exact Int.mul_pos h1 h2
 ·rw [Int.natAbs_mul, Int.natAbs_mul]
  have a1 : Nat.Coprime (x / (g1 : Int)).natAbs (y / (g2 : Int)).natAbs := cop_of_dvd h.2 (abs_div_dvd dx p1) (abs_div_dvd dy p2)
  have a2 : Nat.Coprime (u / (g2 : Int)).natAbs (v / (g1 : Int)).natAbs := cop_of_dvd k.2 (abs_div_dvd du p2) (abs_div_dvd dv p1)
  exact Nat.Coprime.mul_left (Nat.Coprime.mul_right a1 c1) (Nat.Coprime.mul_right c2 a2)
theorem mul_q (h : Can x y) (k : Can u v) :
  x / ((Nat.gcd x.natAbs v.natAbs : Nat) : Int) * (u / ((Nat.gcd u.natAbs y.natAbs : Nat) : Int)) = fN (x * u) (y * v) ∧ y / ((Nat.gcd u.natAbs y.natAbs : Nat) : Int) * (v / ((Nat.gcd x.natAbs v.natAbs : Nat) : Int)) = fD (x * u) (y * v) := by
 refine f_eq (mul_can h k) (Int.mul_ne_zero (by have := h.1; omega) (by have := k.1; omega)) ?_
 have hy := h.1
 have hv := k.1
 have dx := Int.ediv_mul_cancel (dvd_gl x v)
 have dv := Int.ediv_mul_cancel (dvd_gr x v)
 have du := Int.ediv_mul_cancel (dvd_gl u y)
 have dy := Int.ediv_mul_cancel (dvd_gr u y)
 generalize ((Nat.gcd x.natAbs v.natAbs : Nat) : Int) = g1 at *
 generalize ((Nat.gcd u.natAbs y.natAbs : Nat) : Int) = g2 at *
 generalize x / g1 = p at *
 generalize v / g1 = s at *
 generalize u / g2 = q at *
 generalize y / g2 = r at *
 subst dx dv du dy
 ac_rfl
theorem add_can {x y u v g y1 v1 n g2 : Int} (h : Can x y) (k : Can u v) (hg : g = ((Nat.gcd y.natAbs v.natAbs : Nat) : Int)) (hy1 : y1 = y / g) (hv1 : v1 = v / g) (hn : n = x * v1 + u * y1) (hg2 : g2 = ((Nat.gcd n.natAbs g.natAbs : Nat) : Int)) :
  Can (n / g2) (y1 * v1 * (g / g2)) ∧ n / g2 * (y * v) = (x * v + u * y) * (y1 * v1 * (g / g2)) := by
 have hy := h.1
 have hv := k.1
 have pg : 0 < Nat.gcd y.natAbs v.natAbs := gcd_pos' (by omega)
 have dy : g ∣ y := by rw [hg]; exact dvd_gl y v
 have dv : g ∣ v := by rw [hg]; exact dvd_gr y v
 have pg' : 0 < g := by omega
 have ey : y1 * g = y := by rw [hy1]; exact Int.ediv_mul_cancel dy
 have ev : v1 * g = v := by rw [hv1]; exact Int.ediv_mul_cancel dv
 have pg2 : 0 < Nat.gcd n.natAbs g.natAbs := gcd_pos' (by omega)
 have pg2' : 0 < g2 := by omega
 have dn : g2 ∣ n := by rw [hg2]; exact dvd_gl n g
 have dg : g2 ∣ g := by rw [hg2]; exact dvd_gr n g
 have en : n / g2 * g2 = n := Int.ediv_mul_cancel dn
 have eg : g / g2 * g2 = g := Int.ediv_mul_cancel dg
 have py1 : 0 < y1 := by rw [hy1]; exact Int.ediv_pos_of_pos_of_dvd hy (by omega) dy
 have pv1 : 0 < v1 := by rw [hv1]; exact Int.ediv_pos_of_pos_of_dvd hv (by omega) dv
 have pr : 0 < g / g2 := Int.ediv_pos_of_pos_of_dvd pg' (by omega) dg
 have c1 : Nat.Coprime y1.natAbs v1.natAbs := by
  have := cop_div (a := y) (b := v) (.inr (by omega))
  rw [← hg, ← hy1, ← hv1] at this
  exact this
 have c2 : Nat.Coprime (n / g2).natAbs (g / g2).natAbs := by
  have := cop_div (a := n) (b := g) (.inr (by omega))
  rw [← hg2] at this
  exact this
 have d1 : y1.natAbs ∣ y.natAbs := ⟨g.natAbs, by rw [← Int.natAbs_mul, ey]⟩
 have d2 : v1.natAbs ∣ v.natAbs := ⟨g.natAbs, by rw [← Int.natAbs_mul, ev]⟩
 have x1 : Nat.Coprime x.natAbs y1.natAbs := Nat.Coprime.coprime_dvd_right d1 h.2
 have u1 : Nat.Coprime u.natAbs v1.natAbs := Nat.Coprime.coprime_dvd_right d2 k.2
 have n1 : Nat.Coprime n.natAbs y1.natAbs := by
  have e : Int.gcd (x * v1 + u * y1) y1 = Int.gcd (x * v1) y1 := Int.gcd_add_mul_right_left ..
  have e2 : Nat.gcd n.natAbs y1.natAbs = Nat.gcd (x * v1).natAbs y1.natAbs := by rw [hn]; exact e
  rw [Nat.Coprime, e2, Int.natAbs_mul]
  exact Nat.Coprime.mul_left x1 c1.symm
 have n2 : Nat.Coprime n.natAbs v1.natAbs := by
  have e : Int.gcd (u * y1 + x * v1) v1 = Int.gcd (u * y1) v1 := Int.gcd_add_mul_right_left ..
  have e2 : Nat.gcd n.natAbs v1.natAbs = Nat.gcd (u * y1).natAbs v1.natAbs := by rw [hn, Int.add_comm]; exact e
  rw [Nat.Coprime, e2, Int.natAbs_mul]
  exact Nat.Coprime.mul_left u1 c1
 have d3 : (n / g2).natAbs ∣ n.natAbs := ⟨g2.natAbs, by rw [← Int.natAbs_mul, en]⟩
 refine ⟨⟨Int.mul_pos (Int.mul_pos py1 pv1) pr, ?_⟩, ?_⟩
 ·rw [Int.natAbs_mul, Int.natAbs_mul]
  exact Nat.Coprime.mul_right (Nat.Coprime.mul_right (Nat.Coprime.coprime_dvd_left d3 n1) (Nat.Coprime.coprime_dvd_left d3 n2)) c2
 ·refine Int.eq_of_mul_eq_mul_right (show g2 ≠ 0 by omega) ?_
  have e1 : n * g = x * v + u * y := by rw [hn, Int.add_mul, Int.mul_assoc, Int.mul_assoc, ev, ey]
  rw [Int.mul_right_comm, en, Int.mul_assoc, Int.mul_assoc (y1 * v1), eg, ← e1, ← ey, ← ev]
  ac_rfl
theorem add_q {x y u v g y1 v1 n g2 : Int} (h : Can x y) (k : Can u v) (hg : g = ((Nat.gcd y.natAbs v.natAbs : Nat) : Int)) (hy1 : y1 = y / g) (hv1 : v1 = v / g) (hn : n = x * v1 + u * y1) (hg2 : g2 = ((Nat.gcd n.natAbs g.natAbs : Nat) : Int)) :
  n / g2 = fN (x * v + u * y) (y * v) ∧ y1 * v1 * (g / g2) = fD (x * v + u * y) (y * v) := by
 obtain ⟨h1, h2⟩ := add_can h k hg hy1 hv1 hn hg2
 exact f_eq h1 (Int.mul_ne_zero (by have := h.1; omega) (by have := k.1; omega)) h2
theorem can_one (x : Int) : Can x 1 := ⟨by decide, by simp⟩
theorem can_neg (h : Can x y) : Can (-x) y := ⟨h.1, by rw [Int.natAbs_neg]; exact h.2⟩
theorem can_inv_neg (h : Can x y) (hx : x < 0) : Can (-y) (-x) := ⟨by omega, by rw [Int.natAbs_neg, Int.natAbs_neg, Nat.gcd_comm]; exact h.2⟩
theorem fD_abs (hq : q ≠ 0) : (fD p q).natAbs ≤ q.natAbs := by
 have h1 := congrArg Int.natAbs (fD_mul (p := p) hq)
 rw [Int.natAbs_mul, Int.natAbs_natCast, Int.natAbs_natCast] at h1
 have hg := gcd_pos' (p := p) hq
 have h2 : (fD p q).natAbs * 1 ≤ (fD p q).natAbs * Nat.gcd p.natAbs q.natAbs := Nat.mul_le_mul_left _ hg
 omega
open Go.RowKit Go.Shelf
variable {A : Option Addr} {W w w2 : World} {c p q : Nat} {l : List Nat} {n : Bool} {v x y : Int}
theorem Box2.stored {u v : Value} (h : Box2 W p u v) (x y : Value) : Box2 ((W.setCell ⟨p, 0, none⟩ x).setCell ⟨p, 1, none⟩ y) p x y := (h.set0 _).set1 _
theorem Box2.stored' (h : Box2 W p (.bool false) (.slice none 0 0)) (x y : Value) : Box2 ((W.setCell ⟨p, 0, none⟩ x).setCell ⟨p, 1, none⟩ y) p x y := (h.set0 _).set1 _
def PwB (w : World) (p q : Nat) (x y : Int) (W : World) : Prop :=
 ∃ n A c l n' A' c' l', Box2 W p (.bool n) (.slice A l.length c) ∧ Box2 W q (.bool n') (.slice A' l'.length c') ∧ IV W n A c l x ∧ IV W n' A' c' l' y ∧ p ≠ q ∧ w.heap.size ≤ p ∧ w.heap.size ≤ q ∧ Below w.heap.size w W
def PwAt (w : World) (x y : Int) (s t : Value) (W : World) : Prop := ∃ p q, s = .pointer (some ⟨p, 0, none⟩) ∧ t = .pointer (some ⟨q, 0, none⟩) ∧ PwB w p q x y W
theorem IV.two {z : Int} (h : IV W n A c l z) {u : Bool} {B : Option Addr} {k d : Nat} (hb : Box2 W p (.bool u) (.slice B k d)) (x y : Value) :
  IV ((W.setCell ⟨p, 0, none⟩ x).setCell ⟨p, 1, none⟩ y) n A c l z := ⟨h.cap, h.ws.two (ws_off_box hb (by simp) h.ws) _ _, h.can, h.val, h.len⟩
theorem PwB.set_p (h : PwB w p q x y W) (hb : Below W.heap.size W w2) (i : IV w2 n A c l v) :
  PwB w p q v y ((w2.setCell ⟨p, 0, none⟩ (.bool n)).setCell ⟨p, 1, none⟩ (.slice A l.length c)) := by
 obtain ⟨n1, A1, c1, l1, n2, A2, c2, l2, bp, bq, i1, i2, hne, hp, hq, hbl⟩ := h
 exact ⟨n, A, c, l, n2, A2, c2, l2, (bp.below hb).stored _ _, (bq.below hb).far (fun e => hne e.symm) _ _, i.two (bp.below hb) _ _, (i2.below hb).two (bp.below hb) _ _, hne, hp, hq, b2 (bt hbl hb) hp _ _⟩
theorem PwB.set_q (h : PwB w p q x y W) (hb : Below W.heap.size W w2) (i : IV w2 n A c l v) :
  PwB w p q x v ((w2.setCell ⟨q, 0, none⟩ (.bool n)).setCell ⟨q, 1, none⟩ (.slice A l.length c)) := by
 obtain ⟨n1, A1, c1, l1, n2, A2, c2, l2, bp, bq, i1, i2, hne, hp, hq, hbl⟩ := h
 exact ⟨n1, A1, c1, l1, n, A, c, l, (bp.below hb).far hne _ _, (bq.below hb).stored _ _, (i1.below hb).two (bq.below hb) _ _, i.two (bq.below hb) _ _, hne, hp, hq, b2 (bt hbl hb) hq _ _⟩
open Go.RowKit Go.Shelf
variable {A : Option Addr} {c : Nat} {l : List Nat} {n : Bool} {w : World} {x : Int}
theorem bxs3 (w : World) (na nb : Bool) (A B : Option Addr) (n c m d : Nat) : ∃ W, W = ((w.alloc (bx na A n c)).alloc (bx nb B m d)).alloc (bx false none 0 0) ∧ Below w.heap.size w W ∧
  Box2 W w.heap.size (.bool na) (.slice A n c) ∧ Box2 W (w.heap.size + 1) (.bool nb) (.slice B m d) ∧ Box2 W (w.heap.size + 1 + 1) (.bool false) (.slice none 0 0) := by
 refine ⟨_, rfl, ba (ba (ba (b0 _) _) _) _, ((Box2.new w _ _).alloc _).alloc _, ?_, ?_⟩
 ·have h := (Box2.new (w.alloc (bx na A n c)) (.bool nb) (.slice B m d)).alloc (bx false none 0 0)
  rw [World.size_alloc] at h; exact h
 ·have h := Box2.new ((w.alloc (bx na A n c)).alloc (bx nb B m d)) (.bool false) (.slice none 0 0)
  rw [World.size_alloc, World.size_alloc] at h; exact h
theorem one_iff (hw : ∀ y ∈ l, y < 4294967296) (hB : isB n l = true) (hz : zI n l = x) : (((bl l : Nat) : Int) = 1 ∧ n = false) ↔ x = 1 := by
 constructor
 ·rintro ⟨h1, rfl⟩
  have h1' : bl l = 1 := by omega
  have h0 : 0 < l.length := by
   rcases Nat.eq_zero_or_pos l.length with h | h
   ·unfold bl at h1'; rw [if_pos h] at h1'; omega
   ·exact h
  have hb := bl_bound hw (isB_top hB) h0
  rw [h1'] at hb
  have e : val l = 1 := by omega
  rw [← hz]
  unfold zI
  rw [if_neg (by simp), e]; rfl
 ·intro hx
  obtain ⟨rfl, rfl⟩ := canon_eq hw (l2 := [1]) (n2 := false) (by simp) hB (by decide) (by rw [hz, hx]; decide)
  exact ⟨by decide, rfl⟩
theorem Bits_iv (h : IV w n A c l x) :
  Calls Tryz.prog 78 #[.agg #[.bool n, .slice A l.length c]] w fun e w' => e = .returned (.int .i64 ((bl l : Nat) : Int)) ∧ Below w.heap.size w w' := by
 have e1 := h.len
 have r := Bits_any n A l.length c l true w rfl (by omega) h.ws h.can
 rwa [if_pos rfl] at r
theorem isOne_iv (h : IV w n A c l x) :
  Calls Tryz.prog 110 #[.agg #[.bool n, .slice A l.length c]] w fun e w' => e = .returned (.bool (decide (x = 1))) ∧ Below w.heap.size w w' := by
 have h1 := one_iff h.ws.1 h.can h.val
 have H := Hi h
 obtain ⟨b, hb⟩ : ∃ b : Int, b = ((bl l : Nat) : Int) := ⟨_, rfl⟩
 have HB : Hid (∀ W, Below w.heap.size w W → Calls Tryz.prog 78 #[.agg #[.bool n, .slice A l.length c]] W fun e w' => e = .returned (.int .i64 b) ∧ Below W.heap.size W w') := Hi (fun W hW => by
  have r := Bits_iv (h.below hW)
  rwa [← hb] at r)
 rw [← hb] at h1
 have HD : Hid ((decide (b = 1) && !n) = decide (x = 1)) := Hi (by
  have e : decide (x = 1) = decide (b = 1 ∧ n = false) := decide_eq_decide.2 h1.symm
  rw [e]
  cases n <;> simp)
 clear h1 h hb
 go_enter Tryz.func110, Tryz.ntmps110
 go_wp2_with fail
 refine (HB.out _ (ba (b0 _) _)).mono ?_
 rintro e w1 ⟨rfl, hb1⟩
 have hbx := (Box2.new w (.bool n) (.slice A l.length c)).below hb1
 obtain ⟨x0, x1⟩ := hbx.cs
 by_cases h1 : b = 1
 ·subst h1
  go_wp2_with fail
  go_ret
  exact ⟨by rw [← HD.out]; simp, bt (ba (b0 _) _) hb1⟩
 ·have h2 : (b == 1) = false := beq_eq_false_iff_ne.2 h1
  go_wp2_with fail
  go_ret
  exact ⟨by rw [← HD.out]; simp [h1], bt (ba (b0 _) _) hb1⟩
theorem over_iv {n m : Bool} {A B : Option Addr} {c d : Nat} {l k : List Nat} {x y : Int} (h : IV w n A c l x) (h2 : IV w m B d k y) (hy : y ≠ 0) :
  Calls Tryz.prog 112 #[.agg #[.bool n, .slice A l.length c], .agg #[.bool m, .slice B k.length d]] w (RIV w (x / y)) := by
 have HX := Hi (lt_ediv (y := y) (lt_le (lt_val h.ws h.val) h.len))
 have HR := Hi (lt_emod (x := x) hy (lt_le (lt_val h2.ws h2.val) h2.len))
 have H1 := Hi h
 have H2 := Hi h2
 have HY := Hi hy
 obtain ⟨b, hb⟩ : ∃ b, b = decide (y = 1) := ⟨_, rfl⟩
 have HB := Hi hb
 clear h h2 hy hb
 obtain ⟨W1, hW1, hw1, x0, x1, x2⟩ := bxs3 w n m A B l.length c k.length d
 go_enter Tryz.func112, Tryz.ntmps112
 go_wp2_with fail
 rw [← hW1]
 clear hW1
 refine (isOne_iv (H2.out.below hw1)).mono ?_
 rintro e w1 ⟨rfl, hb1⟩
 rw [← HB.out]
 have hw2 := bt hw1 hb1
 replace x0 := x0.below hb1
 replace x1 := x1.below hb1
 replace x2 := x2.below hb1
 have f0 := x2.free 0
 have f1 := x2.free 1
 obtain ⟨r0, r1⟩ := x2.cs
 obtain ⟨a0, a1⟩ := x0.cs
 obtain ⟨b0', b1⟩ := x1.cs
 have hn2 : w.heap.size ≤ w.heap.size + 1 + 1 := by omega
 cases b
 case true =>
  have hy1 : y = 1 := by have := HB.out; simpa using this.symm
  obtain ⟨k0, k1, k2⟩ := x2.back (.bool n) (.slice A l.length c)
  have HI := Hi (show IV w1 n A c l (x / y) by rw [hy1, Int.ediv_one]; exact H1.out.below hw2)
  clear hy1 HX HR
  go_wp2_with fail
  refine bodyPost_ret (v := .agg #[.bool n, .slice A l.length c]) (by simp [results, Tryz.results112, go_sem, k0, k2]) rfl ?_
  exact riv_store hw2 hn2 x2 HI.out
 case false =>
  go_wp2_with fail
  refine (Div_iv (H1.out.below hw2) (H2.out.below hw2) HY.out rfl rfl HX.out HR.out).mono ?_
  rintro e w3 ⟨n1, A1, c1, l1, n2, A2, c2, l2, rfl, i1, i2, hb⟩
  have hbx := x2.below hb
  have hK := bt hw2 hb
  have HI1 := Hi i1
  clear hb i1 i2 a0 a1 b0' b1 r0 r1 f0 f1 x0 x1 x2
  go_upto_region 4 with fail
  obtain ⟨w4, hw⟩ : ∃ W, W = (w3.alloc (.cells #[.bool n1, .slice A1 l1.length c1] 24)).alloc (.cells #[.bool n2, .slice A2 l2.length c2] 24) := ⟨_, rfl⟩
  have X1 : Box2 w4 w3.heap.size (.bool n1) (.slice A1 l1.length c1) := by rw [hw]; exact (Box2.new _ _ _).alloc _
  have hb2 : Below w3.heap.size w3 w4 := by rw [hw]; exact ba (ba (b0 _) _) _
  rw [← hw]
  clear hw
  have bx := hbx.below hb2
  obtain ⟨q0, q1⟩ := X1.cs
  obtain ⟨x0, x1⟩ := bx.cs
  have f0 := bx.free 0
  have f1 := bx.free 1
  obtain ⟨k0, k1, k2⟩ := bx.back (.bool n1) (.slice A1 l1.length c1)
  go_wp2_with fail
  refine bodyPost_ret (v := .agg #[.bool n1, .slice A1 l1.length c1]) (by simp [results, Tryz.results112, go_sem, k0, k2]) rfl ?_
  exact riv_store (bt hK hb2) hn2 bx (HI1.out.below hb2)
open Go.RowKit Go.Shelf
def RI2 (w : World) (y z : Int) (e : Ending) (w' : World) : Prop :=
 ∃ n1 A1 c1 l1 n2 A2 c2 l2, e = .returned (.tuple #[.agg #[.bool n1, .slice A1 l1.length c1], .agg #[.bool n2, .slice A2 l2.length c2]]) ∧ IV w' n1 A1 c1 l1 y ∧ IV w' n2 A2 c2 l2 z ∧ Below w.heap.size w w'
theorem cancel_iv {w : World} {n m : Bool} {A B : Option Addr} {c d : Nat} {l k : List Nat} {x y : Int} (h : IV w n A c l x) (h2 : IV w m B d k y) (hxy : x ≠ 0 ∨ y ≠ 0) :
  Calls Tryz.prog 105 #[.agg #[.bool n, .slice A l.length c], .agg #[.bool m, .slice B k.length d]] w (RI2 w (x / ((Nat.gcd x.natAbs y.natAbs : Nat) : Int)) (y / ((Nat.gcd x.natAbs y.natAbs : Nat) : Int))) := by
 have hlx := lt_le (lt_val h.ws h.val) h.len
 have hly := lt_le (lt_val h2.ws h2.val) h2.len
 obtain ⟨g, hg⟩ : ∃ g, g = ((Nat.gcd x.natAbs y.natAbs : Nat) : Int) := ⟨_, rfl⟩
 have HGE := Hi hg
 have HG : Hid (g ≠ 0) := Hi (by
  rw [hg]
  have : 0 < Nat.gcd x.natAbs y.natAbs := by
   rcases hxy with h | h
   ·exact Nat.gcd_pos_of_pos_left _ (by omega)
   ·exact Nat.gcd_pos_of_pos_right _ (by omega)
  omega)
 have HLG := Hi (lt_gcd hlx hly)
 rw [← hg] at HLG ⊢
 have H1 := Hi h
 have H2 := Hi h2
 obtain ⟨b, hb⟩ : ∃ b, b = decide (x = 1) := ⟨_, rfl⟩
 obtain ⟨b', hb'⟩ : ∃ b, b = decide (y = 1) := ⟨_, rfl⟩
 have HB := Hi hb
 have HB' := Hi hb'
 clear h h2 hxy hlx hly hg hb hb'
 obtain ⟨W1, hW1, hw1, x0, x1, x2, x3⟩ := boxes4 w n m A B l.length c k.length d
 go_enter Tryz.func105, Tryz.ntmps105
 go_wp2_with fail
 rw [← hW1]
 clear hW1
 refine (isOne_iv (H1.out.below hw1)).mono ?_
 rintro e w1 ⟨rfl, hb1⟩
 rw [← HB.out]
 have hw2 := bt hw1 hb1
 replace x0 := x0.below hb1
 replace x1 := x1.below hb1
 replace x2 := x2.below hb1
 replace x3 := x3.below hb1
 clear hw1 hb1 W1
 obtain ⟨r00, r01⟩ := x0.cs
 obtain ⟨r10, r11⟩ := x1.cs
 obtain ⟨r20, r21⟩ := x2.cs
 obtain ⟨r30, r31⟩ := x3.cs
 have f20 := x2.free 0
 have f21 := x2.free 1
 have f30 := x3.free 0
 have f31 := x3.free 1
 cases b
 case true =>
  have hx1 : x = 1 := by have := HB.out; simpa using this.symm
  have hg1 : g = 1 := by rw [HGE.out, hx1]; simp
  have HI := Hi (show IV w1 n A c l (x / g) by rw [hg1, Int.ediv_one]; exact H1.out.below hw2)
  have HJ := Hi (show IV w1 m B d k (y / g) by rw [hg1, Int.ediv_one]; exact H2.out.below hw2)
  clear hx1 hg1
  go_wp2_with fail
  go_region_law fail
  all_goals
   go_wp2_with fail
   have z2 := (x2.stored (.bool n) (.slice A l.length c)).far (show w.heap.size + 1 + 1 ≠ w.heap.size + 1 + 1 + 1 by omega) (.bool m) (.slice B k.length d)
   have z3 := (x3.far (show w.heap.size + 1 + 1 + 1 ≠ w.heap.size + 1 + 1 by omega) (.bool n) (.slice A l.length c)).stored (.bool m) (.slice B k.length d)
   obtain ⟨k20, k21⟩ := z2.cs
   obtain ⟨k30, k31⟩ := z3.cs
   refine bodyPost_ret (v := .tuple #[.agg #[.bool n, .slice A l.length c], .agg #[.bool m, .slice B k.length d]]) (by simp [results, Tryz.results105, go_sem, k20, k21, k30, k31]) rfl ?_
   have j1 := (HI.out.two x2 (.bool n) (.slice A l.length c)).two (x3.far (show w.heap.size + 1 + 1 + 1 ≠ w.heap.size + 1 + 1 by omega) (.bool n) (.slice A l.length c)) (.bool m) (.slice B k.length d)
   have j2 := (HJ.out.two x2 (.bool n) (.slice A l.length c)).two (x3.far (show w.heap.size + 1 + 1 + 1 ≠ w.heap.size + 1 + 1 by omega) (.bool n) (.slice A l.length c)) (.bool m) (.slice B k.length d)
   first | exact ⟨_, _, _, _, _, _, _, _, rfl, j1, j2, b2 (b2 hw2 (by omega) _ _) (by omega) _ _⟩ | exact ⟨_, _, _, _, _, _, _, _, rfl, j1.below (bw (b0 _)), j2.below (bw (b0 _)), bw (b2 (b2 hw2 (by omega) _ _) (by omega) _ _)⟩
 case false =>
  go_wp2_with fail
  refine (isOne_iv (H2.out.below hw2)).mono ?_
  rintro e w2 ⟨rfl, hb1⟩
  rw [← HB'.out]
  have hw3 := bt hw2 hb1
  replace x0 := x0.below hb1
  replace x1 := x1.below hb1
  replace x2 := x2.below hb1
  replace x3 := x3.below hb1
  clear hw2 hb1 r00 r01 r10 r11 r20 r21 r30 r31 f20 f21 f30 f31
  obtain ⟨r00, r01⟩ := x0.cs
  obtain ⟨r10, r11⟩ := x1.cs
  obtain ⟨r20, r21⟩ := x2.cs
  obtain ⟨r30, r31⟩ := x3.cs
  have f20 := x2.free 0
  have f21 := x2.free 1
  have f30 := x3.free 0
  have f31 := x3.free 1
  cases b'
  case true =>
   have hy1 : y = 1 := by have := HB'.out; simpa using this.symm
   have hg1 : g = 1 := by rw [HGE.out, hy1]; simp
   have HI := Hi (show IV w2 n A c l (x / g) by rw [hg1, Int.ediv_one]; exact H1.out.below hw3)
   have HJ := Hi (show IV w2 m B d k (y / g) by rw [hg1, Int.ediv_one]; exact H2.out.below hw3)
   clear hy1 hg1
   go_wp2_with fail
   go_region_law fail
   all_goals
    go_wp2_with fail
    have z2 := (x2.stored (.bool n) (.slice A l.length c)).far (show w.heap.size + 1 + 1 ≠ w.heap.size + 1 + 1 + 1 by omega) (.bool m) (.slice B k.length d)
    have z3 := (x3.far (show w.heap.size + 1 + 1 + 1 ≠ w.heap.size + 1 + 1 by omega) (.bool n) (.slice A l.length c)).stored (.bool m) (.slice B k.length d)
    obtain ⟨k20, k21⟩ := z2.cs
    obtain ⟨k30, k31⟩ := z3.cs
    refine bodyPost_ret (v := .tuple #[.agg #[.bool n, .slice A l.length c], .agg #[.bool m, .slice B k.length d]]) (by simp [results, Tryz.results105, go_sem, k20, k21, k30, k31]) rfl ?_
    have j1 := (HI.out.two x2 (.bool n) (.slice A l.length c)).two (x3.far (show w.heap.size + 1 + 1 + 1 ≠ w.heap.size + 1 + 1 by omega) (.bool n) (.slice A l.length c)) (.bool m) (.slice B k.length d)
    have j2 := (HJ.out.two x2 (.bool n) (.slice A l.length c)).two (x3.far (show w.heap.size + 1 + 1 + 1 ≠ w.heap.size + 1 + 1 by omega) (.bool n) (.slice A l.length c)) (.bool m) (.slice B k.length d)
    first | exact ⟨_, _, _, _, _, _, _, _, rfl, j1, j2, b2 (b2 hw3 (by omega) _ _) (by omega) _ _⟩ | exact ⟨_, _, _, _, _, _, _, _, rfl, j1.below (bw (b0 _)), j2.below (bw (b0 _)), bw (b2 (b2 hw3 (by omega) _ _) (by omega) _ _)⟩
  case false =>
   go_wp2_with fail
   refine (Gcd_iv (H1.out.below hw3) (H2.out.below hw3) HGE.out.symm HLG.out).mono ?_
   rintro e w4 ⟨n4, A4, c4, l4, rfl, i4, hb⟩
   clear r00 r01 r10 r11 r20 r21 r30 r31 f20 f21 f30 f31
   replace x0 := x0.below hb
   replace x1 := x1.below hb
   replace x2 := x2.below hb
   replace x3 := x3.below hb
   have hw4 := bt hw3 hb
   clear hb hw3
   obtain ⟨r00, r01⟩ := x0.cs
   obtain ⟨r10, r11⟩ := x1.cs
   obtain ⟨r20, r21⟩ := x2.cs
   obtain ⟨r30, r31⟩ := x3.cs
   go_wp2_with fail
   obtain ⟨w5, hw5⟩ : ∃ W, W = w4.alloc (.cells #[.bool n4, .slice A4 l4.length c4] 24) := ⟨_, rfl⟩
   rw [← hw5]
   have hb5 : Below w4.heap.size w4 w5 := by rw [hw5]; exact ba (b0 _) _
   have x4 : Box2 w5 w4.heap.size (.bool n4) (.slice A4 l4.length c4) := by rw [hw5]; exact Box2.new _ _ _
   have HI4 := Hi (i4.below hb5)
   replace x0 := x0.below hb5
   replace x1 := x1.below hb5
   have X2 := Hi (x2.below hb5)
   have X3 := Hi (x3.below hb5)
   have hw6 := bt hw4 hb5
   have HC := (hj x0.hc (hj x1.hc x4.hc))
   have HW := Hi hw6
   clear hw5 hw4 hb5 i4 x0 x1 x2 x3 x4 r00 r01 r10 r11 r20 r21 r30 r31 hw6
   refine rg0 6 HC fun hHeld => ?_
   refine tk 0 ?_
   refine tk 1 ?_
   refine tk 3 ?_
   refine tk 4 ?_
   refine cl 2 fun K hK => ?_
   go_simp
   go_at_call 112
   refine (over_iv (H1.out.below (bt HW.out (bw (b0 _)))) (HI4.out.below (bw (b0 _))) HG.out).mono ?_
   rintro e w7 ⟨n7, A7, c7, l7, rfl, i7, hb7'⟩
   have HB7 := Hi (show Below w5.heap.size w5 w7 from bt (bw (b0 _)) hb7')
   have HI7 := Hi i7
   clear hb7' i7 hHeld
   refine rk hK (HC.out _ HB7.out) fun hHeld => ?_
   clear hK K
   refine cl 5 fun K hK => ?_
   go_simp
   go_at_call 112
   refine (over_iv (H2.out.below (bt HW.out HB7.out)) (HI4.out.below HB7.out) HG.out).mono ?_
   rintro e w8 ⟨n8, A8, c8, l8, rfl, i8, hb8⟩
   have HB8 := Hi (bt HB7.out hb8)
   have HI8 := Hi i8
   have HJ7 := Hi (HI7.out.below hb8)
   clear hb8 i8 hHeld
   refine rk hK (HC.out _ HB8.out) fun hHeld => ?_
   clear hK K
   refine wpAnyH_done (by kernel_rfl) ?_ _
   simp only [HT]
   have y2 := X2.out.below HB8.out
   have y3 := X3.out.below HB8.out
   have hw9 := bt HW.out HB8.out
   have f20 := y2.free 0
   have f21 := y2.free 1
   have f30 := y3.free 0
   have f31 := y3.free 1
   obtain ⟨r20, r21⟩ := y2.cs
   obtain ⟨r30, r31⟩ := y3.cs
   clear hHeld
   go_wp2_with fail
   have z2 := (y2.stored (.bool n7) (.slice A7 l7.length c7)).far (show w.heap.size + 1 + 1 ≠ w.heap.size + 1 + 1 + 1 by omega) (.bool n8) (.slice A8 l8.length c8)
   have z3 := (y3.far (show w.heap.size + 1 + 1 + 1 ≠ w.heap.size + 1 + 1 by omega) (.bool n7) (.slice A7 l7.length c7)).stored (.bool n8) (.slice A8 l8.length c8)
   obtain ⟨k20, k21⟩ := z2.cs
   obtain ⟨k30, k31⟩ := z3.cs
   refine bodyPost_ret (v := .tuple #[.agg #[.bool n7, .slice A7 l7.length c7], .agg #[.bool n8, .slice A8 l8.length c8]]) (by simp [results, Tryz.results105, go_sem, k20, k21, k30, k31]) rfl ?_
   have j1 := (HJ7.out.two y2 (.bool n7) (.slice A7 l7.length c7)).two (y3.far (show w.heap.size + 1 + 1 + 1 ≠ w.heap.size + 1 + 1 by omega) (.bool n7) (.slice A7 l7.length c7)) (.bool n8) (.slice A8 l8.length c8)
   have j2 := (HI8.out.two y2 (.bool n7) (.slice A7 l7.length c7)).two (y3.far (show w.heap.size + 1 + 1 + 1 ≠ w.heap.size + 1 + 1 by omega) (.bool n7) (.slice A7 l7.length c7)) (.bool n8) (.slice A8 l8.length c8)
   first | exact ⟨_, _, _, _, _, _, _, _, rfl, j1, j2, b2 (b2 hw9 (by omega) _ _) (by omega) _ _⟩ | exact ⟨_, _, _, _, _, _, _, _, rfl, j1.below (bw (b0 _)), j2.below (bw (b0 _)), bw (b2 (b2 hw9 (by omega) _ _) (by omega) _ _)⟩
open Go.RowKit Go.Shelf
variable {A B C : Option Addr} {l : List Nat} {m n : Bool} {w : World}
def Box4 (W : World) (p : Nat) (a b c d : Value) : Prop := Cells W p 35 #[a, b, c, d]
section
variable {W W' : World} {p q : Nat} {a b c d : Value}
theorem Box4.new (W : World) (a b c d : Value) : Box4 (W.alloc (.cells #[a, b, c, d] 35)) W.heap.size a b c d := Cells.new _ _ _
theorem Box4.below (h : Box4 W p a b c d) (hb : Below W.heap.size W W') : Box4 W' p a b c d := Cells.below h hb
theorem Box4.alloc (h : Box4 W p a b c d) (o : Obj) : Box4 (W.alloc o) p a b c d := h.below (ba (b0 _) _)
theorem Box4.lt (h : Box4 W p a b c d) : p < W.heap.size := Cells.lt h
theorem Box4.cell0 (h : Box4 W p a b c d) : W.cell? ⟨p, 0, none⟩ = some a := by have := Cells.at_ h 0; simpa using this
theorem Box4.cell1 (h : Box4 W p a b c d) : W.cell? ⟨p, 1, none⟩ = some b := by have := Cells.at_ h 1; simpa using this
theorem Box4.cell2 (h : Box4 W p a b c d) : W.cell? ⟨p, 2, none⟩ = some c := by have := Cells.at_ h 2; simpa using this
theorem Box4.cell3 (h : Box4 W p a b c d) : W.cell? ⟨p, 3, none⟩ = some d := by have := Cells.at_ h 3; simpa using this
theorem Box4.cs {W : World} {p : Nat} {a b c d : Value} (h : Box4 W p a b c d) : W.cell? ⟨p, 0, none⟩ = some a ∧ W.cell? ⟨p, 1, none⟩ = some b ∧ W.cell? ⟨p, 2, none⟩ = some c ∧ W.cell? ⟨p, 3, none⟩ = some d := ⟨h.cell0, h.cell1, h.cell2, h.cell3⟩
theorem Box4.free (h : Box4 W p a b c d) (i : Nat) : W.frozen? ⟨p, i, none⟩ = false := Cells.free h i
theorem Box4.stored (h : Box4 W p a b c d) (x y z u : Value) : Box4 ((((W.setCell ⟨p, 0, none⟩ x).setCell ⟨p, 1, none⟩ y).setCell ⟨p, 2, none⟩ z).setCell ⟨p, 3, none⟩ u) p x y z u := by
 have := (((Cells.set_ h 0 x).set_ 1 y).set_ 2 z).set_ 3 u
 unfold Box4
 simpa using this
theorem Box4.far2 (h : Box4 W p a b c d) (hne : p ≠ q) (x y : Value) : Box4 ((W.setCell ⟨q, 0, none⟩ x).setCell ⟨q, 1, none⟩ y) p a b c d := (Cells.far h hne 0 x).far hne 1 y
theorem Box4.far4 (h : Box4 W p a b c d) (hne : p ≠ q) (x y z u : Value) : Box4 ((((W.setCell ⟨q, 0, none⟩ x).setCell ⟨q, 1, none⟩ y).setCell ⟨q, 2, none⟩ z).setCell ⟨q, 3, none⟩ u) p a b c d :=
 (((Cells.far h hne 0 x).far hne 1 y).far hne 2 z).far hne 3 u
end
theorem ws_off4 {W : World} {p : Nat} {i c j d : Nat} (h : WS W A l) (hs : Box4 W p (.bool n) (.slice B i c) (.bool m) (.slice C j d)) : Off A l p := by
 intro hl b off e
 obtain ⟨b', off', e', _, hc⟩ := h.2 hl
 rw [e] at e'
 injection e' with e'
 injection e' with e1 e2
 subst e1 e2
 rintro rfl
 have h1 := hc 0 (List.length_pos_iff.2 hl)
 rw [Nat.add_zero, Cells.at_ hs off] at h1
 match off, h1 with
 | 0, h1 => simp at h1
 | 1, h1 => simp at h1
 | 2, h1 => simp at h1
 | 3, h1 => simp at h1
 | k + 4, h1 => simp at h1
theorem WS.two23 (h : WS w A l) {p : Nat} (ho : Off A l p) (x y : Value) : WS ((w.setCell ⟨p, 2, none⟩ x).setCell ⟨p, 3, none⟩ y) A l :=
 h.only (((only_refl p w).set_ (.inl rfl) _).set_ (.inl rfl) _) ho
theorem IV.four {W : World} {c : Nat} {z : Int} (h : IV W n A c l z) {p : Nat} {u v : Bool} {k d i e : Nat} (hb : Box4 W p (.bool u) (.slice B k d) (.bool v) (.slice C i e)) (x y s t : Value) :
  IV ((((W.setCell ⟨p, 0, none⟩ x).setCell ⟨p, 1, none⟩ y).setCell ⟨p, 2, none⟩ s).setCell ⟨p, 3, none⟩ t) n A c l z := by
 have ho := ws_off4 h.ws hb
 exact ⟨h.cap, (h.ws.two ho _ _).two23 ho _ _, h.can, h.val, h.len⟩
theorem b4 {a w : World} (h : Below a.heap.size a w) {p : Nat} (hp : a.heap.size ≤ p) (x y z u : Value) : Below a.heap.size a ((((w.setCell ⟨p, 0, none⟩ x).setCell ⟨p, 1, none⟩ y).setCell ⟨p, 2, none⟩ z).setCell ⟨p, 3, none⟩ u) := bs (bs (bs (bs h hp _) hp _) hp _) hp _
def RIQ (w : World) (p q : Int) (e : Ending) (w' : World) : Prop :=
 ∃ n A c l m B d k, e = .returned (.agg #[.bool n, .slice A l.length c, .bool m, .slice B k.length d]) ∧ IV w' n A c l p ∧ IV w' m B d k q ∧ Below w.heap.size w w'
theorem riq_store {w W : World} {r : Nat} {c d : Nat} {l k : List Nat} {x y : Int} (hW : Below w.heap.size w W) (hp : w.heap.size ≤ r) (hbx : Box4 W r (.bool false) (.slice none 0 0) (.bool false) (.slice none 0 0)) (h : IV W n A c l x) (h2 : IV W m B d k y) :
  RIQ w x y (.returned (.agg #[.bool n, .slice A l.length c, .bool m, .slice B k.length d])) ((((W.setCell ⟨r, 0, none⟩ (.bool n)).setCell ⟨r, 1, none⟩ (.slice A l.length c)).setCell ⟨r, 2, none⟩ (.bool m)).setCell ⟨r, 3, none⟩ (.slice B k.length d)) :=
 ⟨n, A, c, l, m, B, d, k, rfl, h.four hbx _ _ _ _, h2.four hbx _ _ _ _, b4 hW hp _ _ _ _⟩
open Go Go.RowKit
variable {a b c d : Value} {p : Nat}
theorem Box4.fr {W : World} (h : Box4 W p a b c d) : W.frozen? ⟨p, 0, none⟩ = false ∧ W.frozen? ⟨p, 1, none⟩ = false ∧ W.frozen? ⟨p, 2, none⟩ = false ∧ W.frozen? ⟨p, 3, none⟩ = false := ⟨h.free 0, h.free 1, h.free 2, h.free 3⟩
theorem Box4.hc {w : World} (h : Box4 w p a b c d) : Hid (∀ W, Below w.heap.size w W → W.cell? ⟨p, 0, none⟩ = some a ∧ W.cell? ⟨p, 1, none⟩ = some b ∧ W.cell? ⟨p, 2, none⟩ = some c ∧ W.cell? ⟨p, 3, none⟩ = some d) := Hi fun _ hb => (h.below hb).cs
theorem hd4 (w : World) (uu0 uu1 uu2 uu3 : Value) : ∃ W, W = w.alloc (.cells #[uu0, uu1, uu2, uu3] 35) ∧ Below w.heap.size w W ∧ Box4 W (w.heap.size) uu0 uu1 uu2 uu3 := by
 refine ⟨_, rfl, ba (b0 _) _, ?_⟩
 ·have h := Box4.new w uu0 uu1 uu2 uu3
  exact h
theorem hd44 (w : World) (uu0 uu1 uu2 uu3 vv0 vv1 vv2 vv3 : Value) : ∃ W, W = (w.alloc (.cells #[uu0, uu1, uu2, uu3] 35)).alloc (.cells #[vv0, vv1, vv2, vv3] 35) ∧ Below w.heap.size w W ∧ Box4 W (w.heap.size) uu0 uu1 uu2 uu3 ∧ Box4 W (w.heap.size + 1) vv0 vv1 vv2 vv3 := by
 refine ⟨_, rfl, ba (ba (b0 _) _) _, ?_, ?_⟩
 ·have h := Box4.new w uu0 uu1 uu2 uu3
  exact (h.alloc _)
 ·have h := Box4.new (w.alloc (.cells #[uu0, uu1, uu2, uu3] 35)) vv0 vv1 vv2 vv3
  rw [World.size_alloc] at h
  exact h
theorem hd444 (w : World) (uu0 uu1 uu2 uu3 vv0 vv1 vv2 vv3 xx0 xx1 xx2 xx3 : Value) : ∃ W, W = ((w.alloc (.cells #[uu0, uu1, uu2, uu3] 35)).alloc (.cells #[vv0, vv1, vv2, vv3] 35)).alloc (.cells #[xx0, xx1, xx2, xx3] 35) ∧ Below w.heap.size w W ∧ Box4 W (w.heap.size) uu0 uu1 uu2 uu3 ∧ Box4 W (w.heap.size + 1) vv0 vv1 vv2 vv3 ∧ Box4 W (w.heap.size + 1 + 1) xx0 xx1 xx2 xx3 := by
 refine ⟨_, rfl, ba (ba (ba (b0 _) _) _) _, ?_, ?_, ?_⟩
 ·have h := Box4.new w uu0 uu1 uu2 uu3
  exact ((h.alloc _).alloc _)
 ·have h := Box4.new (w.alloc (.cells #[uu0, uu1, uu2, uu3] 35)) vv0 vv1 vv2 vv3
  rw [World.size_alloc] at h
  exact (h.alloc _)
 ·have h := Box4.new ((w.alloc (.cells #[uu0, uu1, uu2, uu3] 35)).alloc (.cells #[vv0, vv1, vv2, vv3] 35)) xx0 xx1 xx2 xx3
  rw [World.size_alloc, World.size_alloc] at h
  exact h
theorem hd24 (w : World) (uu0 uu1 vv0 vv1 vv2 vv3 : Value) : ∃ W, W = (w.alloc (.cells #[uu0, uu1] 24)).alloc (.cells #[vv0, vv1, vv2, vv3] 35) ∧ Below w.heap.size w W ∧ Box2 W (w.heap.size) uu0 uu1 ∧ Box4 W (w.heap.size + 1) vv0 vv1 vv2 vv3 := by
 refine ⟨_, rfl, ba (ba (b0 _) _) _, ?_, ?_⟩
 ·have h := Box2.new w uu0 uu1
  exact (h.alloc _)
 ·have h := Box4.new (w.alloc (.cells #[uu0, uu1] 24)) vv0 vv1 vv2 vv3
  rw [World.size_alloc] at h
  exact h
theorem hd42 (w : World) (uu0 uu1 uu2 uu3 vv0 vv1 : Value) : ∃ W, W = (w.alloc (.cells #[uu0, uu1, uu2, uu3] 35)).alloc (.cells #[vv0, vv1] 24) ∧ Below w.heap.size w W ∧ Box4 W (w.heap.size) uu0 uu1 uu2 uu3 ∧ Box2 W (w.heap.size + 1) vv0 vv1 := by
 refine ⟨_, rfl, ba (ba (b0 _) _) _, ?_, ?_⟩
 ·have h := Box4.new w uu0 uu1 uu2 uu3
  exact (h.alloc _)
 ·have h := Box2.new (w.alloc (.cells #[uu0, uu1, uu2, uu3] 35)) vv0 vv1
  rw [World.size_alloc] at h
  exact h
theorem hd224 (w : World) (uu0 uu1 vv0 vv1 xx0 xx1 xx2 xx3 : Value) : ∃ W, W = ((w.alloc (.cells #[uu0, uu1] 24)).alloc (.cells #[vv0, vv1] 24)).alloc (.cells #[xx0, xx1, xx2, xx3] 35) ∧ Below w.heap.size w W ∧ Box2 W (w.heap.size) uu0 uu1 ∧ Box2 W (w.heap.size + 1) vv0 vv1 ∧ Box4 W (w.heap.size + 1 + 1) xx0 xx1 xx2 xx3 := by
 refine ⟨_, rfl, ba (ba (ba (b0 _) _) _) _, ?_, ?_, ?_⟩
 ·have h := Box2.new w uu0 uu1
  exact ((h.alloc _).alloc _)
 ·have h := Box2.new (w.alloc (.cells #[uu0, uu1] 24)) vv0 vv1
  rw [World.size_alloc] at h
  exact (h.alloc _)
 ·have h := Box4.new ((w.alloc (.cells #[uu0, uu1] 24)).alloc (.cells #[vv0, vv1] 24)) xx0 xx1 xx2 xx3
  rw [World.size_alloc, World.size_alloc] at h
  exact h
theorem hdQQ (w : World) (n : Bool) (A : Option Addr) (c : Nat) (l : List Nat) (m : Bool) (B : Option Addr) (d : Nat) (k : List Nat) (n' : Bool) (A' : Option Addr) (c' : Nat) (l' : List Nat) (m' : Bool) (B' : Option Addr) (d' : Nat) (k' : List Nat) : ∃ W, W = (w.alloc (.cells #[.bool n, .slice A l.length c, .bool m, .slice B k.length d] 35)).alloc (.cells #[.bool n', .slice A' l'.length c', .bool m', .slice B' k'.length d'] 35) ∧ Below w.heap.size w W ∧ Box4 W (w.heap.size) (.bool n) (.slice A l.length c) (.bool m) (.slice B k.length d) ∧ Box4 W (w.heap.size + 1) (.bool n') (.slice A' l'.length c') (.bool m') (.slice B' k'.length d') := hd44 w (.bool n) (.slice A l.length c) (.bool m) (.slice B k.length d) (.bool n') (.slice A' l'.length c') (.bool m') (.slice B' k'.length d')
theorem hdIq (w : World) (n : Bool) (A : Option Addr) (c : Nat) (l : List Nat) : ∃ W, W = (w.alloc (.cells #[.bool n, .slice A l.length c] 24)).alloc (.cells #[.bool false, .slice none 0 0, .bool false, .slice none 0 0] 35) ∧ Below w.heap.size w W ∧ Box2 W (w.heap.size) (.bool n) (.slice A l.length c) ∧ Box4 W (w.heap.size + 1) (.bool false) (.slice none 0 0) (.bool false) (.slice none 0 0) := hd24 w (.bool n) (.slice A l.length c) (.bool false) (.slice none 0 0) (.bool false) (.slice none 0 0)
theorem hdQq (w : World) (n : Bool) (A : Option Addr) (c : Nat) (l : List Nat) (m : Bool) (B : Option Addr) (d : Nat) (k : List Nat) : ∃ W, W = (w.alloc (.cells #[.bool n, .slice A l.length c, .bool m, .slice B k.length d] 35)).alloc (.cells #[.bool false, .slice none 0 0, .bool false, .slice none 0 0] 35) ∧ Below w.heap.size w W ∧ Box4 W (w.heap.size) (.bool n) (.slice A l.length c) (.bool m) (.slice B k.length d) ∧ Box4 W (w.heap.size + 1) (.bool false) (.slice none 0 0) (.bool false) (.slice none 0 0) := hd44 w (.bool n) (.slice A l.length c) (.bool m) (.slice B k.length d) (.bool false) (.slice none 0 0) (.bool false) (.slice none 0 0)
theorem hdIIq (w : World) (n : Bool) (A : Option Addr) (c : Nat) (l : List Nat) (m : Bool) (B : Option Addr) (d : Nat) (k : List Nat) : ∃ W, W = ((w.alloc (.cells #[.bool n, .slice A l.length c] 24)).alloc (.cells #[.bool m, .slice B k.length d] 24)).alloc (.cells #[.bool false, .slice none 0 0, .bool false, .slice none 0 0] 35) ∧ Below w.heap.size w W ∧ Box2 W (w.heap.size) (.bool n) (.slice A l.length c) ∧ Box2 W (w.heap.size + 1) (.bool m) (.slice B k.length d) ∧ Box4 W (w.heap.size + 1 + 1) (.bool false) (.slice none 0 0) (.bool false) (.slice none 0 0) := hd224 w (.bool n) (.slice A l.length c) (.bool m) (.slice B k.length d) (.bool false) (.slice none 0 0) (.bool false) (.slice none 0 0)
theorem hdQi (w : World) (n : Bool) (A : Option Addr) (c : Nat) (l : List Nat) (m : Bool) (B : Option Addr) (d : Nat) (k : List Nat) : ∃ W, W = (w.alloc (.cells #[.bool n, .slice A l.length c, .bool m, .slice B k.length d] 35)).alloc (.cells #[.bool false, .slice none 0 0] 24) ∧ Below w.heap.size w W ∧ Box4 W (w.heap.size) (.bool n) (.slice A l.length c) (.bool m) (.slice B k.length d) ∧ Box2 W (w.heap.size + 1) (.bool false) (.slice none 0 0) := hd42 w (.bool n) (.slice A l.length c) (.bool m) (.slice B k.length d) (.bool false) (.slice none 0 0)
theorem hdQQq (w : World) (n : Bool) (A : Option Addr) (c : Nat) (l : List Nat) (m : Bool) (B : Option Addr) (d : Nat) (k : List Nat) (n' : Bool) (A' : Option Addr) (c' : Nat) (l' : List Nat) (m' : Bool) (B' : Option Addr) (d' : Nat) (k' : List Nat) : ∃ W, W = ((w.alloc (.cells #[.bool n, .slice A l.length c, .bool m, .slice B k.length d] 35)).alloc (.cells #[.bool n', .slice A' l'.length c', .bool m', .slice B' k'.length d'] 35)).alloc (.cells #[.bool false, .slice none 0 0, .bool false, .slice none 0 0] 35) ∧ Below w.heap.size w W ∧ Box4 W (w.heap.size) (.bool n) (.slice A l.length c) (.bool m) (.slice B k.length d) ∧ Box4 W (w.heap.size + 1) (.bool n') (.slice A' l'.length c') (.bool m') (.slice B' k'.length d') ∧ Box4 W (w.heap.size + 1 + 1) (.bool false) (.slice none 0 0) (.bool false) (.slice none 0 0) := hd444 w (.bool n) (.slice A l.length c) (.bool m) (.slice B k.length d) (.bool n') (.slice A' l'.length c') (.bool m') (.slice B' k'.length d') (.bool false) (.slice none 0 0) (.bool false) (.slice none 0 0)
theorem hdQ (w : World) (n : Bool) (A : Option Addr) (c : Nat) (l : List Nat) (m : Bool) (B : Option Addr) (d : Nat) (k : List Nat) : ∃ W, W = w.alloc (.cells #[.bool n, .slice A l.length c, .bool m, .slice B k.length d] 35) ∧ Below w.heap.size w W ∧ Box4 W (w.heap.size) (.bool n) (.slice A l.length c) (.bool m) (.slice B k.length d) := hd4 w (.bool n) (.slice A l.length c) (.bool m) (.slice B k.length d)
theorem hdq (w : World)  : ∃ W, W = w.alloc (.cells #[.bool false, .slice none 0 0, .bool false, .slice none 0 0] 35) ∧ Below w.heap.size w W ∧ Box4 W (w.heap.size) (.bool false) (.slice none 0 0) (.bool false) (.slice none 0 0) := hd4 w (.bool false) (.slice none 0 0) (.bool false) (.slice none 0 0)
theorem nb4 (w : World) (n : Bool) (A : Option Addr) (c : Nat) (l : List Nat) (m : Bool) (B : Option Addr) (d : Nat) (k : List Nat) : ∃ W, W = w.alloc (.cells #[.bool n, .slice A l.length c, .bool m, .slice B k.length d] 35) ∧ Box4 W w.heap.size (.bool n) (.slice A l.length c) (.bool m) (.slice B k.length d) ∧ Below w.heap.size w W :=
 ⟨_, rfl, Box4.new _ _ _ _ _, ba (b0 _) _⟩
end Go.Proofs.YtgljdfblgpdaaaaGreatDoor
