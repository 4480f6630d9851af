import Derived.Test.YtgljdfblgpdaaaaGreatDoorPbSanA
import Derived.Test.YtgljdfblgpdaaaaGreatDoorSiRatQ
import Derived.Test.YtgljdfblgpdaaaaGreatDoorSiRatL
set_option linter.unusedSimpArgs false
set_option linter.unusedVariables false
set_option maxRecDepth 100000
set_option maxHeartbeats 4000000
namespace Go.Proofs.YtgljdfblgpdaaaaGreatDoor
open Go.RowKit Go.Shelf
variable {z : Int}
structure SimQ (q r s : Rat) : Prop where
 lo : q ≤ s
 hi : s ≤ r
 least : ∀ c : Rat, q ≤ c → c ≤ r → s.den ≤ c.den ∧ s.num.natAbs ≤ c.num.natAbs
theorem sim_uniq {q r s c x : Rat} (h : SimQ q r s) (h1 : q ≤ c) (h2 : c ≤ r) (k : SimQ c s x ∨ SimQ s c x) : x = s := by
 have hx : q ≤ x ∧ x ≤ r := by
  rcases k with k | k
  ·exact ⟨Rat.le_trans h1 k.lo, Rat.le_trans k.hi h.hi⟩
  ·exact ⟨Rat.le_trans h.lo k.lo, Rat.le_trans k.hi h2⟩
 have hs : x.den ≤ s.den ∧ x.num.natAbs ≤ s.num.natAbs := by
  rcases k with k | k
  ·exact k.least s (Rat.le_trans k.lo k.hi) Rat.le_refl
  ·exact k.least s Rat.le_refl (Rat.le_trans k.lo k.hi)
 have hl := h.least x hx.1 hx.2
 have e1 : x.den = s.den := Nat.le_antisymm hs.1 hl.1
 have e2 : x.num.natAbs = s.num.natAbs := Nat.le_antisymm hs.2 hl.2
 rcases Int.natAbs_eq_natAbs_iff.1 e2 with e3 | e3
 ·exact Rat.ext e3 e1
 ·have e4 : x = -s := Rat.ext (by rw [Rat.neg_num]; exact e3) (by rw [Rat.neg_den]; exact e1)
  have h0 : q ≤ 0 ∧ (0 : Rat) ≤ r := by
   have g1 := h.lo
   have g2 := h.hi
   rw [e4] at hx
   constructor <;> grind
  have h3 := (h.least 0 h0.1 h0.2).2
  have h4 : s.num = 0 := by
   have : (0 : Rat).num.natAbs = 0 := rfl
   omega
  exact Rat.ext (by rw [e3, h4]; rfl) e1
theorem le_rat {q r : Rat} : q ≤ r ↔ q.num * r.den ≤ r.num * q.den := Rat.le_iff q r
theorem num_pos {q : Rat} : 0 < q.num ↔ 0 < q := by rw [Rat.lt_iff]; simp
theorem num_neg {q : Rat} : q.num < 0 ↔ q < 0 := by rw [Rat.lt_iff]; simp
theorem simQ_of {q r : Rat} {X Y : Int} (h0 : 0 < q) (hs : Simp q.num q.den r.num r.den X Y) : ∃ s : Rat, s.num = X ∧ (s.den : Int) = Y ∧ SimQ q r s := by
 obtain ⟨s, e1, e2⟩ := rat_of_can (x := X) (y := Y) ⟨hs.pq, hs.can⟩
 refine ⟨s, e1, e2, ?_, ?_, fun c hc1 hc2 => ?_⟩
 ·rw [le_rat, e1, e2]; exact hs.lo
 ·rw [le_rat, e1, e2]; exact hs.hi
 ·have hc0 : 0 < c.num := num_pos.2 (by grind)
  obtain ⟨g1, g2⟩ := hs.least c.num c.den hc0 (den_gt c) (le_rat.1 hc1) (le_rat.1 hc2)
  have := hs.pp
  omega
theorem simQ_neg {q r s : Rat} (h : SimQ (-r) (-q) s) : SimQ q r (-s) := by
 have h1 := h.lo
 have h2 := h.hi
 refine ⟨by grind, by grind, fun c hc1 hc2 => ?_⟩
 have := h.least (-c) (by grind) (by grind)
 rw [Rat.neg_num, Rat.neg_den, Int.natAbs_neg] at *
 exact this
def RQN (w : World) (er : Int) (e : Ending) (w' : World) : Prop := ∃ a : QW, e = .returned (.tuple #[.agg #[.bool a.n, .slice a.A a.l.length a.c, .bool a.m, .slice a.B a.k.length a.d], .int .i64 er]) ∧ Below w.heap.size w w'
section
variable {M N i j : Nat} {W W' w w' : World} {a b : QW} {q r : Rat} {e : Ending}
theorem QSim_q (h : QV 6 w a q) (h2 : QV 6 w b r) (hle : q ≤ r) : Calls Tryz.prog 60 #[.agg #[.bool a.n, .slice a.A a.l.length a.c, .bool a.m, .slice a.B a.k.length a.d], .agg #[.bool b.n, .slice b.A b.l.length b.c, .bool b.m, .slice b.B b.k.length b.d]] w fun e w' => ∃ s, SimQ q r s ∧ RQX 6 w s 0 e w' := by
 have L : Lt 6 q.num ∧ Lt 6 (q.den : Int) ∧ Lt 6 r.num ∧ Lt 6 (r.den : Int) := ⟨h.num.lt, h.den.lt, h2.num.lt, h2.den.lt⟩
 have hle' := le_rat.1 hle
 have fin : ∀ (e : Ending) (w' : World) (X Y : Int) (s : Rat), SimQ q r s → s.num = X → (s.den : Int) = Y → RQE w X Y 0 e w' → ∃ s, SimQ q r s ∧ RQX 6 w s 0 e w' := by
  intro e w' X Y s hs e1 e2 hr
  have g := hs.least q Rat.le_refl hle
  refine ⟨s, hs, hr.toQ e1 e2 ?_ ?_⟩
  ·rw [← e1]; exact Nat.lt_of_le_of_lt g.2 L.1
  ·rw [← e2]; exact Nat.lt_of_le_of_lt (by omega) L.2.1
 by_cases h0 : 0 < q.num
 ·refine (QSim_pos (h.i1 (by decide)) (h.i2 (by decide)) (h2.i1 (by decide)) (h2.i2 (by decide)) (can_rat q) (can_rat r) L ⟨hle', h0⟩).mono ?_
  rintro e w' ⟨X, Y, hs, hr⟩
  obtain ⟨s, e1, e2, hq⟩ := simQ_of (num_pos.1 h0) hs
  exact fin e w' X Y s hq e1 e2 hr
 ·by_cases h1 : r.num < 0
  ·refine (QSim_neg (h.i1 (by decide)) (h.i2 (by decide)) (h2.i1 (by decide)) (h2.i2 (by decide)) (can_rat q) (can_rat r) L ⟨hle', by omega, h1⟩).mono ?_
   rintro e w' ⟨X, Y, hs, hr⟩
   obtain ⟨s, e1, e2, hq⟩ := simQ_of (q := -r) (r := -q) (by have := num_neg.1 h1; grind) hs
   exact fin e w' (-X) Y (-s) (simQ_neg hq) (by rw [Rat.neg_num, e1]) e2 hr
  ·refine (QSim_zero (h.i1 (by decide)) (h.i2 (by decide)) (h2.i1 (by decide)) (h2.i2 (by decide)) (can_rat q) (can_rat r) L ⟨hle', by omega, by omega⟩).mono ?_
   intro e w' hr
   refine fin e w' 0 1 0 ⟨?_, ?_, fun c _ _ => ⟨?_, Nat.zero_le _⟩⟩ rfl rfl hr
   ·have := num_pos (q := q); grind
   ·have := num_neg (q := r); grind
   ·have := c.den_nz
    show 1 ≤ c.den
    omega
theorem QSim_e (h : QV 6 w a q) (h2 : QV 6 w b r) (hlt : r < q) : Calls Tryz.prog 60 #[.agg #[.bool a.n, .slice a.A a.l.length a.c, .bool a.m, .slice a.B a.k.length a.d], .agg #[.bool b.n, .slice b.A b.l.length b.c, .bool b.m, .slice b.B b.k.length b.d]] w (RQN w 4) := by
 refine (QSim_none (h.i1 (by decide)) (h.i2 (by decide)) (h2.i1 (by decide)) (h2.i2 (by decide)) (can_rat q) (can_rat r) ⟨h.num.lt, h.den.lt, h2.num.lt, h2.den.lt⟩ ((Rat.lt_iff r q).1 hlt)).mono ?_
 rintro e w' ⟨n, A, c, l, m, B, d, k, he, _, _, hb⟩
 exact ⟨⟨n, A, c, l, m, B, d, k⟩, he, hb⟩
theorem RQIs_q (h : QV M w a q) (hM : M ≤ 300) : Calls Tryz.prog 36 #[.agg #[.bool a.n, .slice a.A a.l.length a.c, .bool a.m, .slice a.B a.k.length a.d]] w fun e w' => e = .returned (.bool true) ∧ Below w.heap.size w w' :=
 RQIs_iv (h.num.iv' hM) (h.den.iv' hM) (can_rat q)
theorem small_yes (h : QV N w a q) (hN : N ≤ 300) : Calls Tryz.prog 37 #[.agg #[.bool a.n, .slice a.A a.l.length a.c, .bool a.m, .slice a.B a.k.length a.d], .int .i64 (N : Int)] w fun e w' => e = .returned (.bool true) ∧ Below w.heap.size w w' := by
 have r := small_any (n := a.n) (m := a.m) (N := N) hN h.num.ws h.den.ws h.num.cap h.den.cap
 have hc := can_rat q
 rw [decide_eq_true h.num.len, decide_eq_true h.den.len] at r
 unfold isQ at r
 rw [h.num.can, h.den.can, h.num.val, h.den.val, decide_eq_true hc.1, decide_eq_true hc.2] at r
 exact r
theorem ZCmp_z {z u : Int} {a b : ZW} (h : ZV i w a z) (h2 : ZV j w b u) (hi : i ≤ 300) (hj : j ≤ 300) : Calls Tryz.prog 61 #[.agg #[.bool a.n, .slice a.A a.l.length a.c], .agg #[.bool b.n, .slice b.A b.l.length b.c]] w fun e w' => e = .returned (.int .i64 (cmpI z u)) ∧ Below w.heap.size w w' :=
 RCmp_iv (JV.iv' h hi) (JV.iv' h2 hj) rfl
theorem ZAbs_z {a : ZW} (h : ZV i w a z) (hi : i ≤ 300) : Calls Tryz.prog 62 #[.agg #[.bool a.n, .slice a.A a.l.length a.c]] w (RZ i w (z.natAbs : Int)) := by
 have hl : Lt i (z.natAbs : Int) := by unfold Lt; rw [Int.natAbs_natCast]; exact JV.lt h
 exact (RAbs_iv (JV.iv' h hi) rfl (lt_le hl hi)).mono fun e w' hr => hr.toZ rfl hl
theorem QV.zn (h : QV M w a q) : ZV M w ⟨a.n, a.A, a.c, a.l⟩ q.num := h.num
theorem QV.zd (h : QV M w a q) : ZV M w ⟨a.m, a.B, a.d, a.k⟩ (q.den : Int) := h.den
theorem QV.four (h : QV M W a q) {p : Nat} {u v : Bool} {B C : Option Addr} {k d i e : Nat} (hb : Box4 W p (.bool u) (.slice B k d) (.bool v) (.slice C i e)) (x y s t : Value) :
  QV M ((((W.setCell ⟨p, 0, none⟩ x).setCell ⟨p, 1, none⟩ y).setCell ⟨p, 2, none⟩ s).setCell ⟨p, 3, none⟩ t) a q := ⟨h.num.four hb _ _ _ _, h.den.four hb _ _ _ _⟩
end
end Go.Proofs.YtgljdfblgpdaaaaGreatDoor
