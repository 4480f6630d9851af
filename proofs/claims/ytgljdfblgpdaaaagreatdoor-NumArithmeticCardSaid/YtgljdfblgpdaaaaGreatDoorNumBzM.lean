/- The mathematics of the specification's Bezout. -/
import Derived.Test.YtgljdfblgpdaaaaGreatDoorNumBezI
set_option linter.unusedSimpArgs false
set_option linter.unusedVariables false
namespace Go.Proofs.YtgljdfblgpdaaaaGreatDoor
open Go.RowKit

/-- x1 and y1 have no common divisor, and y1 divides d x1: so it divides d. -/
theorem bz_dvd {d x y : Int} {g : Nat} (hg : 0 < g) (hgc : Nat.gcd x.natAbs y.natAbs = g) {e : Int} (h : d * x = e * y) : (y / g) ∣ d := by
  obtain ⟨x1, hx1⟩ : (g : Int) ∣ x := by rw [← hgc]; exact Int.gcd_dvd_left ..
  obtain ⟨y1, hy1⟩ : (g : Int) ∣ y := by rw [← hgc]; exact Int.gcd_dvd_right ..
  have hg0 : (g : Int) ≠ 0 := by omega
  have e1 : y / g = y1 := by rw [hy1]; exact Int.mul_ediv_cancel_left _ hg0
  rw [e1]
  have e2 : d * x1 = e * y1 := by
    have : (g : Int) * (d * x1) = g * (e * y1) := by
      rw [Int.mul_left_comm, ← hx1, h, hy1, Int.mul_left_comm]
    exact Int.eq_of_mul_eq_mul_left hg0 this
  have hco : Int.gcd x1 y1 = 1 := by
    have h1 : Int.gcd x y = g := hgc
    rw [hx1, hy1, Int.gcd_mul_left] at h1
    have : (g : Int).natAbs = g := Int.natAbs_natCast g
    rw [this] at h1
    exact Nat.eq_of_mul_eq_mul_left hg (by rw [h1, Nat.mul_one])
  have h3 : y1 ∣ d * x1 := ⟨e, by rw [e2, Int.mul_comm]⟩
  have h4 : Int.gcd y1 x1 = 1 := by rw [Int.gcd_comm]; exact hco
  have h5 : y1.natAbs ∣ d.natAbs * x1.natAbs := by rw [← Int.natAbs_mul]; exact Int.natAbs_dvd_natAbs.2 h3
  exact Int.natAbs_dvd_natAbs.1 (Nat.Coprime.dvd_of_dvd_mul_right h4 h5)
/-- The factors are one: the first one is the least. -/
theorem BF.uniq {x y u v u' v' : Int} (hy : y ≠ 0) (h : BF x y u v) (h' : BF x y u' v') : u = u' ∧ v = v' := by
  obtain ⟨g, hg⟩ : ∃ g, g = Nat.gcd x.natAbs y.natAbs := ⟨_, rfl⟩
  have hgp : 0 < g := by rw [hg]; exact Nat.gcd_pos_of_pos_right _ (by omega)
  have l1 := h.least hy
  have l2 := h'.least hy
  have c1 := h.comb
  have c2 := h'.comb
  rw [← hg] at l1 l2 c1 c2
  have hd : (u - u') * x = (v' - v) * y := by
    rw [Int.sub_mul, Int.sub_mul]; omega
  have h1 := bz_dvd hgp hg.symm hd
  obtain ⟨y1, hy1⟩ : (g : Int) ∣ y := by rw [hg]; exact Int.gcd_dvd_right ..
  have e1 : y / g = y1 := by rw [hy1]; exact Int.mul_ediv_cancel_left _ (by omega)
  rw [e1] at h1
  obtain ⟨k, hk⟩ := h1
  have hya : (y.natAbs : Int) = g * (y1.natAbs : Int) := by
    rw [hy1, Int.natAbs_mul]; simp
  rw [hya] at l1 l2
  have b1 : u < (y1.natAbs : Int) := by
    have := l1.2; rw [Int.mul_comm] at this; exact Int.lt_of_mul_lt_mul_left this (by omega)
  have b2 : u' < (y1.natAbs : Int) := by
    have := l2.2; rw [Int.mul_comm] at this; exact Int.lt_of_mul_lt_mul_left this (by omega)
  have hk0 : k = 0 := by
    rcases Nat.eq_zero_or_pos k.natAbs with h0 | h0
    · omega
    · exfalso
      have h3 := congrArg Int.natAbs hk
      rw [Int.natAbs_mul] at h3
      have h4 : y1.natAbs * 1 ≤ y1.natAbs * k.natAbs := Nat.mul_le_mul_left _ h0
      omega
  rw [hk0, Int.mul_zero] at hk
  have hu : u = u' := by omega
  refine ⟨hu, ?_⟩
  have h5 : v * y = v' * y := by rw [hu] at c1; omega
  exact Int.eq_of_mul_eq_mul_right hy h5
/-- The loop of the specification's Bezout: a and b are the integers, x and y what is left, s and t their factors. -/
structure BzI (a b x y s t : Int) : Prop where
  x0 : 0 ≤ x
  y0 : 0 < y
  xs : ∃ k, x = s * a + k * b
  yt : ∃ k, y = t * a + k * b
  gcd : Nat.gcd x.natAbs y.natAbs = Nat.gcd a.natAbs b.natAbs
  fit : s.natAbs * y.natAbs + t.natAbs * x.natAbs ≤ b.natAbs
  xy : x ≤ y
  yb : y.natAbs ≤ b.natAbs
theorem BzI.start {a b : Int} (hb : b ≠ 0) : BzI a b (a % b) (b.natAbs : Int) 1 0 := by
  have h1 := Int.emod_nonneg a hb
  have h2 := Int.emod_lt a hb
  have h3 := Int.mul_ediv_add_emod a b
  refine ⟨h1, by omega, ⟨-(a / b), ?_⟩, ?_, ?_, by simp, by omega, by simp⟩
  · rw [Int.one_mul, Int.neg_mul, Int.mul_comm]; omega
  · rcases Int.natAbs_eq b with h | h
    · exact ⟨1, by omega⟩
    · exact ⟨-1, by omega⟩
  · have e : Int.gcd (a % b) b = Int.gcd a b := by
      rw [Int.gcd_comm, Int.gcd_comm a b]
      have e2 : a % b = a - a / b * b := by rw [Int.mul_comm]; omega
      rw [e2]; exact Int.gcd_sub_mul_right_right ..
    simpa [Int.gcd] using e
theorem BzI.step {a b x y s t : Int} (h : BzI a b x y s t) (hx : x ≠ 0) : BzI a b (y % x) x (t - y / x * s) s := by
  have hx0 := h.x0
  have hy0 := h.y0
  have h1 := Int.emod_nonneg y hx
  have h2 := Int.emod_lt_of_pos y (show 0 < x by omega)
  have h3 := Int.mul_ediv_add_emod y x
  have hq : 0 ≤ y / x := Int.ediv_nonneg (by omega) hx0
  obtain ⟨k, hk⟩ := h.xs
  obtain ⟨l, hl⟩ := h.yt
  refine ⟨h1, by omega, ⟨l - y / x * k, ?_⟩, ⟨k, hk⟩, ?_, ?_, by omega, by have := h.yb; have := h.xy; omega⟩
  · have e : y % x = y - y / x * x := by rw [Int.mul_comm]; omega
    have e2 : y / x * x = y / x * s * a + y / x * k * b := by
      conv => lhs; rw [hk]
      rw [Int.mul_add, ← Int.mul_assoc, ← Int.mul_assoc]
      rw [← hk]
    rw [e, Int.sub_mul, Int.sub_mul]
    omega
  · rw [← h.gcd]
    have e : Int.gcd (y % x) x = Int.gcd x y := by
      rw [Int.gcd_comm]
      have e2 : y % x = y - y / x * x := by rw [Int.mul_comm]; omega
      rw [e2]; exact Int.gcd_sub_mul_right_right ..
    simpa [Int.gcd] using e
  · have h4 := h.fit
    have h5 : (t - y / x * s).natAbs ≤ t.natAbs + (y / x).natAbs * s.natAbs := by
      rw [← Int.natAbs_mul]; exact Int.natAbs_sub_le ..
    have h6 : y.natAbs = x.natAbs * (y / x).natAbs + (y % x).natAbs := by
      have := congrArg Int.natAbs h3
      rw [← this, Int.natAbs_add_of_nonneg (Int.mul_nonneg hx0 hq) h1, Int.natAbs_mul]
    have h7 := Nat.mul_le_mul_right x.natAbs h5
    rw [Nat.add_mul] at h7
    rw [h6, Nat.mul_add] at h4
    have e1 : s.natAbs * (x.natAbs * (y / x).natAbs) = (y / x).natAbs * s.natAbs * x.natAbs := by
      rw [Nat.mul_comm x.natAbs, ← Nat.mul_assoc, Nat.mul_comm s.natAbs]
    omega
theorem BzI.sb {a b x y s t : Int} (h : BzI a b x y s t) : s.natAbs ≤ b.natAbs := by
  have h1 := h.fit
  have h2 := h.y0
  have h3 : s.natAbs * 1 ≤ s.natAbs * y.natAbs := Nat.mul_le_mul_left _ (by omega)
  omega
theorem BzI.tb {a b x y s t : Int} (h : BzI a b x y s t) (hx : x ≠ 0) : t.natAbs ≤ b.natAbs := by
  have h1 := h.fit
  have h3 : t.natAbs * 1 ≤ t.natAbs * x.natAbs := Nat.mul_le_mul_left _ (by omega)
  omega
theorem BzI.qs {a b x y s t : Int} (h : BzI a b x y s t) (hx : x ≠ 0) : (y / x * s).natAbs ≤ b.natAbs := by
  have h4 := h.fit
  have hx0 := h.x0
  have hy0 := h.y0
  have h1 := Int.emod_nonneg y hx
  have h3 := Int.mul_ediv_add_emod y x
  have hq : 0 ≤ y / x := Int.ediv_nonneg (by omega) hx0
  have h6 : y.natAbs = x.natAbs * (y / x).natAbs + (y % x).natAbs := by
    have := congrArg Int.natAbs h3
    rw [← this, Int.natAbs_add_of_nonneg (Int.mul_nonneg hx0 hq) h1, Int.natAbs_mul]
  rw [h6, Nat.mul_add] at h4
  have e1 : s.natAbs * (x.natAbs * (y / x).natAbs) = x.natAbs * (y / x * s).natAbs := by
    rw [Int.natAbs_mul, Nat.mul_left_comm, Nat.mul_comm s.natAbs]
  have h7 : 1 * (y / x * s).natAbs ≤ x.natAbs * (y / x * s).natAbs := Nat.mul_le_mul_right _ (by omega)
  omega
theorem BzI.gcd0 {a b y s t : Int} (h : BzI a b 0 y s t) : y = ((Nat.gcd a.natAbs b.natAbs : Nat) : Int) := by
  have h1 := h.gcd
  have h2 := h.y0
  rw [Int.natAbs_zero, Nat.gcd_zero_left] at h1
  omega
/-- What the specification's Bezout makes of its last factor. -/
theorem BzI.last {a b y s t u v : Int} (h : BzI a b 0 y s t) (hb : b ≠ 0) (ha1 : Lt 50 a) (hb1 : Lt 50 b) (hu : u = t % ((b.natAbs : Int) / y)) (hv : v = (y - u * a) / b) : BF a b u v ∧ v * b = y - u * a := by
  obtain ⟨g, hg⟩ : ∃ g, g = Nat.gcd a.natAbs b.natAbs := ⟨_, rfl⟩
  have hy := h.gcd0
  have hy0 := h.y0
  obtain ⟨l, hl⟩ := h.yt
  rw [← hg] at hy
  have hgp : 0 < g := by omega
  obtain ⟨a1, ha⟩ : (g : Int) ∣ a := by rw [hg]; exact Int.gcd_dvd_left ..
  obtain ⟨m, hm⟩ : (g : Int) ∣ (b.natAbs : Int) := by rw [hg]; exact Int.dvd_natAbs.2 (Int.gcd_dvd_right ..)
  have hm1 : (b.natAbs : Int) / y = m := by rw [hm, hy]; exact Int.mul_ediv_cancel_left _ (by omega)
  rw [hm1] at hu
  have hmp : 0 < m := by
    rcases Int.lt_or_le 0 m with h0 | h0
    · exact h0
    · have := Int.mul_nonpos_of_nonneg_of_nonpos (show (0 : Int) ≤ g by omega) h0
      omega
  have u0 : 0 ≤ u := by rw [hu]; exact Int.emod_nonneg _ (by omega)
  have u1 : u < m := by rw [hu]; exact Int.emod_lt_of_pos _ hmp
  have e1 : u = t - m * (t / m) := by have := Int.mul_ediv_add_emod t m; omega
  have hdv : b ∣ y - u * a := by
    have e2 : y - u * a = l * b + (t / m) * (m * a) := by
      rw [e1, Int.sub_mul, hl]
      have : m * (t / m) * a = t / m * (m * a) := by rw [Int.mul_comm m, Int.mul_assoc]
      omega
    have e3 : m * a = (b.natAbs : Int) * a1 := by rw [hm, ha, ← Int.mul_assoc, Int.mul_comm m]
    rw [e2, e3]
    refine Int.dvd_add (Int.dvd_mul_left _ _) ?_
    exact Int.dvd_trans (Int.dvd_natAbs.2 (Int.dvd_refl b)) (Int.dvd_trans (Int.dvd_mul_right _ a1) (Int.dvd_mul_left _ _))
  have hvb : v * b = y - u * a := by rw [hv]; exact Int.ediv_mul_cancel hdv
  have hug : u * (g : Int) < (b.natAbs : Int) := by
    rw [hm, Int.mul_comm]
    exact Int.mul_lt_mul_of_pos_left u1 (by omega)
  have hub : u.natAbs ≤ b.natAbs := by
    have : u * 1 ≤ u * (g : Int) := Int.mul_le_mul_of_nonneg_left (by omega) u0
    omega
  have hyb : y.natAbs ≤ b.natAbs := h.yb
  refine ⟨⟨?_, fun _ => ⟨u0, by rw [← hg]; exact hug⟩, ?_, ?_⟩, hvb⟩
  · rw [hvb, ← hg, ← hy]; omega
  · unfold Lt at *
    have := BB_mono (show 50 ≤ 160 by omega)
    omega
  · have h1 : v.natAbs * b.natAbs ≤ (1 + a.natAbs) * b.natAbs := by
      have h2 := congrArg Int.natAbs hvb
      rw [Int.natAbs_mul] at h2
      rw [h2]
      have h3 := Int.natAbs_sub_le y (u * a)
      rw [Int.natAbs_mul] at h3
      have h4 := Nat.mul_le_mul_right a.natAbs hub
      rw [Nat.add_mul, Nat.mul_comm a.natAbs]
      omega
    have h5 : v.natAbs ≤ 1 + a.natAbs := Nat.le_of_mul_le_mul_right h1 (by omega)
    unfold Lt at *
    have h6 := BB_mono (show 51 ≤ 160 by omega)
    have h7 : BB 51 = 4294967296 * BB 50 := BB_succ 50
    omega
end Go.Proofs.YtgljdfblgpdaaaaGreatDoor
