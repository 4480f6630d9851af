/- Lehmer: what guessed turns do, in plain numbers; one of Newton's steps. -/
import Derived.Test.YtgljdfblgpdaaaaGreatDoorNumBase
import Derived.Test.YtgljdfblgpdaaaaGreatDoorNumFin
import Derived.Test.YtgljdfblgpdaaaaGreatDoorNumMix
set_option linter.unusedSimpArgs false
set_option linter.unusedVariables false
/-! Lehmer: what guessed turns do, in plain numbers; one of Newton's steps. -/
namespace Go.Proofs.YtgljdfblgpdaaaaGreatDoor
/-- What some steps have done to the numbers a0 and b0, with what their turn keeps. -/
structure TS (a0 b0 a b p q u v : Nat) (odd : Bool) : Prop where
  h1 : a0 = v * a + q * b
  h2 : b0 = u * a + p * b
  h3 : if odd then a + p * a0 = q * b0 ∧ b + v * b0 = u * a0 else a + q * b0 = p * a0 ∧ b + u * a0 = v * b0
  h4 : (p = 1 ∧ q = 0 ∧ u = 0 ∧ v = 1) ∨ (p ≤ u ∧ q ≤ v ∧ 0 < q ∧ 0 < u ∧ (q < v ∨ 0 < b ∨ a0 ≤ b0))
theorem TS.start (a b : Nat) : TS a b a b 1 0 0 1 false := ⟨by omega, by omega, by simp, .inl ⟨rfl, rfl, rfl, rfl⟩⟩
theorem TS.one {a b c r : Nat} (hc : a = c * b + r) (hc0 : 0 < c) (_ : r < b) : TS a b b r 0 1 1 c true := by
  refine ⟨by omega, by omega, ?_, .inr ⟨by omega, by omega, by omega, by omega, ?_⟩⟩
  · simp; omega
  · by_cases h1 : c = 1
    · subst h1; omega
    · omega
theorem TS.comp {a0 b0 a1 b1 a2 b2 p1 q1 u1 v1 p2 q2 u2 v2 : Nat} {o1 o2 : Bool} (h : TS a0 b0 a1 b1 p1 q1 u1 v1 o1) (k : TS a1 b1 a2 b2 p2 q2 u2 v2 o2) (hlt : b1 < a1 ∨ a0 = a1 ∧ b0 = b1 ∧ p1 = 1 ∧ q1 = 0 ∧ u1 = 0 ∧ v1 = 1 ∧ o1 = false) :
    TS a0 b0 a2 b2 (p2 * p1 + q2 * u1) (p2 * q1 + q2 * v1) (u2 * p1 + v2 * u1) (u2 * q1 + v2 * v1) (o1 != o2) := by
  obtain ⟨h1, h2, h3, h4⟩ := h
  obtain ⟨k1, k2, k3, k4⟩ := k
  have e1 : v1 * a1 = v2 * v1 * a2 + q2 * v1 * b2 := by rw [k1, Nat.mul_add, ← Nat.mul_assoc, ← Nat.mul_assoc, Nat.mul_comm v1, Nat.mul_comm v1]
  have e2 : q1 * b1 = u2 * q1 * a2 + p2 * q1 * b2 := by rw [k2, Nat.mul_add, ← Nat.mul_assoc, ← Nat.mul_assoc, Nat.mul_comm q1, Nat.mul_comm q1]
  have e3 : u1 * a1 = v2 * u1 * a2 + q2 * u1 * b2 := by rw [k1, Nat.mul_add, ← Nat.mul_assoc, ← Nat.mul_assoc, Nat.mul_comm u1, Nat.mul_comm u1]
  have e4 : p1 * b1 = u2 * p1 * a2 + p2 * p1 * b2 := by rw [k2, Nat.mul_add, ← Nat.mul_assoc, ← Nat.mul_assoc, Nat.mul_comm p1, Nat.mul_comm p1]
  refine ⟨by simp only [Nat.add_mul]; omega, by simp only [Nat.add_mul]; omega, ?_, ?_⟩
  · have f : ∀ x y z w : Nat, (x * y + z * w) * a0 = x * (y * a0) + z * (w * a0) := fun x y z w => by rw [Nat.add_mul, Nat.mul_assoc, Nat.mul_assoc]
    have f' : ∀ x y z w : Nat, (x * y + z * w) * b0 = x * (y * b0) + z * (w * b0) := fun x y z w => by rw [Nat.add_mul, Nat.mul_assoc, Nat.mul_assoc]
    rw [f, f', f, f']
    cases o1 <;> cases o2 <;> simp at h3 k3 ⊢
    all_goals
      obtain ⟨h5, h6⟩ := h3
      obtain ⟨k5, k6⟩ := k3
      rw [← h5, ← h6]
      simp only [Nat.mul_add]
      omega
  · rcases k4 with ⟨rfl, rfl, rfl, rfl⟩ | ⟨k5, k6, k7, k8, k9⟩
    · have ha : a1 = a2 := by omega
      have hb : b1 = b2 := by omega
      subst ha hb
      rcases h4 with ⟨rfl, rfl, rfl, rfl⟩ | h4
      · left; simp
      · right; simpa using h4
    · rcases h4 with ⟨rfl, rfl, rfl, rfl⟩ | ⟨h5, h6, h7, h8, h9⟩
      · right
        have ha : a0 = a1 := by omega
        have hb : b0 = b1 := by omega
        subst ha hb
        simpa using ⟨k5, k6, k7, k8, k9⟩
      · right
        have hv : 0 < v1 := by omega
        have hv2 : 0 < v2 := by omega
        have hlt' : b1 < a1 := by rcases hlt with h | h; exact h; omega
        refine ⟨Nat.add_le_add (Nat.mul_le_mul_right _ k5) (Nat.mul_le_mul_right _ k6), Nat.add_le_add (Nat.mul_le_mul_right _ k5) (Nat.mul_le_mul_right _ k6), ?_, ?_, ?_⟩
        · have := Nat.mul_pos k7 hv; omega
        · have := Nat.mul_pos hv2 h8; omega
        · rcases k9 with k9 | k9 | k9
          · left
            have g1 := Nat.mul_le_mul_right q1 k5
            have g2 := Nat.mul_lt_mul_of_pos_right k9 hv
            omega
          · right; left; exact k9
          · omega

/-- The state of a guess: x and y have come of x0 and y0. -/
structure GI (x0 y0 x y p q u v : Nat) (odd : Bool) : Prop where
  h1 : x0 = v * x + q * y
  h2 : y0 = u * x + p * y
  h3 : if odd then x + p * x0 = q * y0 ∧ y + v * y0 = u * x0 else x + q * y0 = p * x0 ∧ y + u * x0 = v * y0
  det : if odd then q * u = p * v + 1 else p * v = q * u + 1
  h4 : (p = 1 ∧ q = 0 ∧ u = 0 ∧ v = 1) ∨ (p ≤ u ∧ q ≤ v ∧ 0 < q ∧ 0 < u ∧ p ≤ q ∧ u ≤ v)
theorem GI.start (x y : Nat) : GI x y x y 1 0 0 1 false := ⟨by omega, by omega, by simp, by simp, .inl ⟨rfl, rfl, rfl, rfl⟩⟩
theorem GI.step {a0 b0 a b p q u v c r : Nat} {odd : Bool} (h : GI a0 b0 a b p q u v odd) (hc : a = c * b + r) (hc0 : 0 < c) : GI a0 b0 b r u v (p + c * u) (q + c * v) (!odd) := by
  obtain ⟨h1, h2, h3, hd, h4⟩ := h
  have e1 : v * a = v * c * b + v * r := by rw [hc, Nat.mul_add, Nat.mul_assoc]
  have e2 : u * a = u * c * b + u * r := by rw [hc, Nat.mul_add, Nat.mul_assoc]
  have e3 : (q + c * v) * b = q * b + v * c * b := by rw [Nat.add_mul, Nat.mul_comm c v]
  have e4 : (p + c * u) * b = p * b + u * c * b := by rw [Nat.add_mul, Nat.mul_comm c u]
  have e5 : (q + c * v) * b0 = q * b0 + c * (v * b0) := by rw [Nat.add_mul, Nat.mul_assoc]
  have e6 : (p + c * u) * a0 = p * a0 + c * (u * a0) := by rw [Nat.add_mul, Nat.mul_assoc]
  have e7 : u * (q + c * v) = q * u + c * (u * v) := by rw [Nat.mul_add, Nat.mul_comm u q, Nat.mul_left_comm]
  have e8 : v * (p + c * u) = p * v + c * (u * v) := by rw [Nat.mul_add, Nat.mul_comm v p, Nat.mul_left_comm, Nat.mul_comm v u]
  have e9 : v ≤ c * v := Nat.le_mul_of_pos_left v hc0
  have e10 : u ≤ c * u := Nat.le_mul_of_pos_left u hc0
  refine ⟨by omega, by omega, ?_, ?_, ?_⟩
  · cases odd
    · simp only [Bool.false_eq_true, if_false] at h3
      obtain ⟨h5, h6⟩ := h3
      have e7 : c * (v * b0) = c * b + c * (u * a0) := by rw [← h6, Nat.mul_add]
      simp only [Bool.not_false, if_true]
      exact ⟨h6, by omega⟩
    · simp only [if_true] at h3
      obtain ⟨h5, h6⟩ := h3
      have e7 : c * (u * a0) = c * b + c * (v * b0) := by rw [← h6, Nat.mul_add]
      simp only [Bool.not_true, Bool.false_eq_true, if_false]
      exact ⟨h6, by omega⟩
  · cases odd
    · simp at hd ⊢; omega
    · simp at hd ⊢; omega
  · right
    rcases h4 with ⟨rfl, rfl, rfl, rfl⟩ | ⟨h5, h6, h7, h8, h9, h10⟩
    · simp; omega
    · have := Nat.mul_le_mul_left c h10
      omega
/-- Collins: a turn that is right for the highest bits is right for the whole numbers. -/
theorem lehmer {x0 y0 x y p q u v s a0 b0 : Nat} {odd : Bool} (h : GI x0 y0 x y p q u v odd) (hq : 0 < q) (hy : v ≤ y) (hx : q + v ≤ x - y) (ha : a0 < s) (hb : b0 < s) :
    ∃ A B, TS (x0 * s + a0) (y0 * s + b0) A B p q u v odd ∧ 0 < B ∧ B < A := by
  obtain ⟨h1, h2, h3, hd, h4⟩ := h
  rcases h4 with h4 | ⟨h5, h6, h7, h8, h9, h10⟩
  · omega
  have ga : ∀ n, n * a0 ≤ n * s := fun n => Nat.mul_le_mul_left n (Nat.le_of_lt ha)
  have gb : ∀ n, n * b0 ≤ n * s := fun n => Nat.mul_le_mul_left n (Nat.le_of_lt hb)
  have hxx : q + v + y ≤ x := by omega
  have i1 : (q + v + y) * s ≤ x * s := Nat.mul_le_mul_right s hxx
  have i2 : v * s ≤ y * s := Nat.mul_le_mul_right s hy
  have i3 : p * s ≤ q * s := Nat.mul_le_mul_right s h9
  have i4 : u * s ≤ v * s := Nat.mul_le_mul_right s h10
  have i5 : u * a0 < u * s := Nat.mul_lt_mul_of_pos_left ha h8
  have i6 : q * b0 < q * s := Nat.mul_lt_mul_of_pos_left hb h7
  have i7 : v * b0 < v * s := Nat.mul_lt_mul_of_pos_left hb (by omega)
  have := ga p
  have := gb p
  have := ga u
  simp only [Nat.add_mul] at i1
  have d1 : ∀ n, n * (x0 * s + a0) = n * x0 * s + n * a0 := fun n => by rw [Nat.mul_add, Nat.mul_assoc]
  have d2 : ∀ n, n * (y0 * s + b0) = n * y0 * s + n * b0 := fun n => by rw [Nat.mul_add, Nat.mul_assoc]
  cases odd
  · simp only [Bool.false_eq_true, if_false] at h3 hd
    obtain ⟨e1, e2⟩ := h3
    have f1 : x * s + q * y0 * s = p * x0 * s := by rw [← e1, Nat.add_mul]
    have f2 : y * s + u * x0 * s = v * y0 * s := by rw [← e2, Nat.add_mul]
    have A1 : x * s + p * a0 - q * b0 + q * (y0 * s + b0) = p * (x0 * s + a0) := by rw [d1, d2]; omega
    have B1 : y * s + v * b0 - u * a0 + u * (x0 * s + a0) = v * (y0 * s + b0) := by rw [d1, d2]; omega
    refine ⟨x * s + p * a0 - q * b0, y * s + v * b0 - u * a0, ⟨?_, ?_, ?_, .inr ⟨h5, h6, h7, h8, .inr (.inl (by omega))⟩⟩, by omega, by omega⟩
    · generalize x * s + p * a0 - q * b0 = A at *
      generalize y * s + v * b0 - u * a0 = B at *
      generalize x0 * s + a0 = X at *
      generalize y0 * s + b0 = Y at *
      have g1 : v * A + v * q * Y = v * p * X := by rw [Nat.mul_assoc, ← Nat.mul_add, A1, Nat.mul_assoc]
      have g2 : q * B + q * u * X = q * v * Y := by rw [Nat.mul_assoc, ← Nat.mul_add, B1, Nat.mul_assoc]
      have g3 : v * p * X = q * u * X + X := by rw [Nat.mul_comm v p, hd, Nat.add_mul, Nat.one_mul]
      rw [Nat.mul_comm v q] at g1
      omega
    · generalize x * s + p * a0 - q * b0 = A at *
      generalize y * s + v * b0 - u * a0 = B at *
      generalize x0 * s + a0 = X at *
      generalize y0 * s + b0 = Y at *
      have g1 : u * A + q * u * Y = p * u * X := by rw [Nat.mul_comm q u, Nat.mul_assoc, ← Nat.mul_add, A1, Nat.mul_comm p u, Nat.mul_assoc]
      have g2 : p * B + p * u * X = p * v * Y := by rw [Nat.mul_assoc, ← Nat.mul_add, B1, Nat.mul_assoc]
      have g3 : p * v * Y = q * u * Y + Y := by rw [hd, Nat.add_mul, Nat.one_mul]
      omega
    · simp only [Bool.false_eq_true, if_false]
      exact ⟨A1, B1⟩
  · simp only [if_true] at h3 hd
    obtain ⟨e1, e2⟩ := h3
    have f1 : x * s + p * x0 * s = q * y0 * s := by rw [← e1, Nat.add_mul]
    have f2 : y * s + v * y0 * s = u * x0 * s := by rw [← e2, Nat.add_mul]
    have A1 : x * s + q * b0 - p * a0 + p * (x0 * s + a0) = q * (y0 * s + b0) := by rw [d1, d2]; omega
    have B1 : y * s + u * a0 - v * b0 + v * (y0 * s + b0) = u * (x0 * s + a0) := by rw [d1, d2]; omega
    refine ⟨x * s + q * b0 - p * a0, y * s + u * a0 - v * b0, ⟨?_, ?_, ?_, .inr ⟨h5, h6, h7, h8, .inr (.inl (by omega))⟩⟩, by omega, by omega⟩
    · generalize x * s + q * b0 - p * a0 = A at *
      generalize y * s + u * a0 - v * b0 = B at *
      generalize x0 * s + a0 = X at *
      generalize y0 * s + b0 = Y at *
      have g1 : v * A + p * v * X = q * v * Y := by rw [Nat.mul_comm p v, Nat.mul_assoc, ← Nat.mul_add, A1, Nat.mul_comm q v, Nat.mul_assoc]
      have g2 : q * B + q * v * Y = q * u * X := by rw [Nat.mul_assoc, ← Nat.mul_add, B1, Nat.mul_assoc]
      have g3 : q * u * X = p * v * X + X := by rw [hd, Nat.add_mul, Nat.one_mul]
      omega
    · generalize x * s + q * b0 - p * a0 = A at *
      generalize y * s + u * a0 - v * b0 = B at *
      generalize x0 * s + a0 = X at *
      generalize y0 * s + b0 = Y at *
      have g1 : u * A + u * p * X = u * q * Y := by rw [Nat.mul_assoc, ← Nat.mul_add, A1, Nat.mul_assoc]
      have g2 : p * B + p * v * Y = p * u * X := by rw [Nat.mul_assoc, ← Nat.mul_add, B1, Nat.mul_assoc]
      have g3 : u * q * Y = p * v * Y + Y := by rw [Nat.mul_comm u q, hd, Nat.add_mul, Nat.one_mul]
      rw [Nat.mul_comm u p] at g1
      omega
    · simp only [if_true]
      exact ⟨A1, B1⟩
/-- The numbers of a sure turn are below 2^31. -/
theorem GI.bound {x0 y0 x y p q u v : Nat} {odd : Bool} (h : GI x0 y0 x y p q u v odd) (h0 : x0 < 4611686018427387904) (hq : 0 < q) (hy : v ≤ y) (hx : q + v ≤ x - y) : p < 2147483648 ∧ q < 2147483648 ∧ u < 2147483648 ∧ v < 2147483648 := by
  obtain ⟨h1, h2, h3, hd, h4⟩ := h
  rcases h4 with h4 | ⟨h5, h6, h7, h8, h9, h10⟩
  · omega
  have i1 : v * (2 * v) ≤ v * x := Nat.mul_le_mul_left v (by omega)
  have : v < 2147483648 := by
    rcases Nat.lt_or_ge v 2147483648 with h | h
    · exact h
    · have := Nat.mul_le_mul h (Nat.mul_le_mul_left 2 h)
      omega
  omega

/-- A root that is right but for less than 1. -/
def Near (n a : Nat) : Prop := 0 < a ∧ (a - 1) * (a - 1) < n ∧ n < (a + 1) * (a + 1)
theorem sq_le {a b : Nat} (h : a ≤ b) : a * a ≤ b * b := Nat.mul_le_mul h h
theorem sq_lt {a b : Nat} (h : a * a < b * b) : a < b := by
  rcases Nat.lt_or_ge a b with h1 | h1
  · exact h1
  · have := sq_le h1; omega
/-- One of Newton's steps, in whole numbers: x = J a is near, b the mean of x and n / x. -/
theorem newton {n a K : Nat} (hK : 0 < K) (hKa : K ≤ a) (h : Near (n / (2 * K * (2 * K))) a) : Near n (a * K + n / (4 * K) / a) := by
  obtain ⟨ha, h1, h2⟩ := h
  obtain ⟨J, hJ⟩ : ∃ J, J = 2 * K := ⟨_, rfl⟩
  rw [← hJ] at h1 h2
  obtain ⟨x, hx⟩ : ∃ x, x = J * a := ⟨_, rfl⟩
  obtain ⟨q, hq⟩ : ∃ q, q = n / (4 * K) / a := ⟨_, rfl⟩
  have e1 : 4 * K * a = 2 * x := by rw [hx, hJ]; simp [Nat.mul_assoc]; omega
  have hq1 : q = n / (2 * x) := by rw [hq, Nat.div_div_eq_div_mul, e1]
  have hJ0 : 0 < J := by omega
  have hx0 : 0 < x := by rw [hx]; exact Nat.mul_pos hJ0 ha
  have hJx : J ≤ x := by rw [hx]; exact Nat.le_mul_of_pos_right J ha
  have hJ2 : J * J ≤ 2 * x := by
    have := Nat.mul_le_mul_left (2 * J) hKa
    rw [hx, ← Nat.mul_assoc]
    have e : J * J = 2 * J * K := by rw [hJ, Nat.mul_left_comm, Nat.mul_assoc, Nat.mul_assoc, Nat.mul_assoc]
    omega
  have up : n < (x + J) * (x + J) := by
    have h3 := Nat.lt_mul_of_div_lt h2 (Nat.mul_pos hJ0 hJ0)
    have e : (x + J) * (x + J) = J * J * ((a + 1) * (a + 1)) := by
      have : x + J = J * (a + 1) := by rw [hx, Nat.mul_add, Nat.mul_one]
      rw [this, Nat.mul_mul_mul_comm]
    rw [e]; rwa [Nat.mul_comm] at h3
  have lo : (x - J) * (x - J) < n := by
    have h3 : ((a - 1) * (a - 1) + 1) * (J * J) ≤ n := (Nat.le_div_iff_mul_le (Nat.mul_pos hJ0 hJ0)).1 h1
    have e : (x - J) * (x - J) = J * J * ((a - 1) * (a - 1)) := by
      have : x - J = J * (a - 1) := by rw [hx, Nat.mul_sub, Nat.mul_one]
      rw [this, Nat.mul_mul_mul_comm]
    rw [Nat.add_mul, Nat.one_mul, Nat.mul_comm] at h3
    have := Nat.mul_pos hJ0 hJ0
    omega
  have hn := Nat.div_add_mod n (2 * x)
  have hr := Nat.mod_lt n (show 0 < 2 * x by omega)
  rw [← hq1] at hn
  rw [← hq]
  have hxe : x = 2 * (a * K) := by rw [hx, hJ, Nat.mul_assoc, Nat.mul_comm K a]
  obtain ⟨b, hb⟩ : ∃ b, b = a * K + q := ⟨_, rfl⟩
  have hb2 : 2 * b = x + 2 * q := by omega
  rw [← hb]
  have hb0 : 0 < b := by omega
  refine ⟨hb0, ?_, ?_⟩
  · rcases Nat.lt_or_ge ((b - 1) * (b - 1)) n with h | h
    · exact h
    exfalso
    obtain ⟨c, hc⟩ : ∃ c, b = c + 1 := ⟨b - 1, by omega⟩
    rw [hc, Nat.add_sub_cancel] at h
    -- v = 2 c, x (v + 2) <= x^2 + n
    have hv : x * (2 * c) + 2 * x ≤ x * x + n := by
      have e : x * (2 * b) = x * x + 2 * x * q := by rw [hb2, Nat.mul_add, ← Nat.mul_assoc, Nat.mul_comm x 2]
      rw [hc, Nat.mul_add, Nat.mul_add] at e
      omega
    rcases Nat.lt_or_ge c (x + J) with h3 | h3
    · rcases Nat.lt_or_ge (x - J) c with h4 | h4
      · -- x - J < c < x + J
        have k1 : x * (2 * c) + 2 * x ≤ x * x + c * c := by omega
        rcases Nat.le_total c x with h5 | h5
        · obtain ⟨d, rfl⟩ : ∃ d, x = c + d := ⟨x - c, by omega⟩
          have hd : d < J := by omega
          have k2 : d * d < J * J := Nat.mul_lt_mul'' hd hd
          have k3 : (c + d) * (2 * c) = 2 * (c * c) + 2 * (c * d) := by rw [Nat.add_mul, Nat.mul_left_comm c 2 c, Nat.mul_left_comm d 2 c, Nat.mul_comm d c]
          have k4 : (c + d) * (c + d) = c * c + 2 * (c * d) + d * d := by rw [Nat.add_mul, Nat.mul_add, Nat.mul_add, Nat.mul_comm d c]; omega
          omega
        · obtain ⟨d, rfl⟩ : ∃ d, c = x + d := ⟨c - x, by omega⟩
          have hd : d < J := by omega
          have k2 : d * d < J * J := Nat.mul_lt_mul'' hd hd
          have k3 : x * (2 * (x + d)) = 2 * (x * x) + 2 * (x * d) := by rw [Nat.mul_left_comm, Nat.mul_add, Nat.mul_add]
          have k4 : (x + d) * (x + d) = x * x + 2 * (x * d) + d * d := by rw [Nat.add_mul, Nat.mul_add, Nat.mul_add, Nat.mul_comm d x]; omega
          omega
      · have := sq_le h4
        omega
    · have k1 := Nat.mul_le_mul_left x (Nat.mul_le_mul_left 2 h3)
      have k2 : x * (2 * (x + J)) = 2 * (x * x) + 2 * (x * J) := by rw [Nat.mul_left_comm, Nat.mul_add, Nat.mul_add]
      have k3 : (x + J) * (x + J) = x * x + 2 * (x * J) + J * J := by rw [Nat.add_mul, Nat.mul_add, Nat.mul_add, Nat.mul_comm J x]; omega
      omega
  · -- n < (b+1)^2
    have k0 : n < 2 * x * (q + 1) := by rw [Nat.mul_add]; omega
    have k1 : x + 2 * (q + 1) = 2 * (b + 1) := by omega
    have k2 : 4 * ((b + 1) * (b + 1)) = (x + 2 * (q + 1)) * (x + 2 * (q + 1)) := by rw [k1, Nat.mul_mul_mul_comm]
    have k3 : ∀ y, 4 * (x * y) ≤ (x + y) * (x + y) := fun y => by
      rcases Nat.le_total x y with h | h
      · obtain ⟨d, rfl⟩ : ∃ d, y = x + d := ⟨y - x, by omega⟩
        have : (x + (x + d)) * (x + (x + d)) = 4 * (x * x) + 4 * (x * d) + d * d := by
          simp only [Nat.add_mul, Nat.mul_add, Nat.mul_comm d x]; omega
        rw [this, Nat.mul_add]; omega
      · obtain ⟨d, rfl⟩ : ∃ d, x = y + d := ⟨x - y, by omega⟩
        have : (y + d + y) * (y + d + y) = 4 * (y * y) + 4 * (d * y) + d * d := by
          simp only [Nat.add_mul, Nat.mul_add, Nat.mul_comm d y]; omega
        rw [this, Nat.add_mul]; omega
    have k4 := k3 (2 * (q + 1))
    have k5 : 4 * (x * (2 * (q + 1))) = 4 * (2 * x * (q + 1)) := by rw [Nat.mul_left_comm x 2, Nat.mul_assoc 2 x]
    omega
theorem near_end {n a : Nat} (h : Near n a) : (if n < a * a then a - 1 else a) * (if n < a * a then a - 1 else a) ≤ n ∧ n < ((if n < a * a then a - 1 else a) + 1) * ((if n < a * a then a - 1 else a) + 1) := by
  obtain ⟨h0, h1, h2⟩ := h
  by_cases hc : n < a * a
  · rw [if_pos hc, show a - 1 + 1 = a by omega]; omega
  · rw [if_neg hc]; omega
end Go.Proofs.YtgljdfblgpdaaaaGreatDoor

/-! What Euclid's algorithm keeps, in plain numbers: from single steps to many; memory of the algorithm. -/
namespace Go.Proofs.YtgljdfblgpdaaaaGreatDoor
open Go.RowKit

theorem TR.ts {a0 b0 a b p q u v : Nat} {odd : Bool} (h : TR a0 b0 a b p q u v odd) : TS a0 b0 a b p q u v odd := by
  obtain ⟨h1, h2, h3, h4, h5, h6, h7, h8⟩ := h
  refine ⟨h1, h2, h3, ?_⟩
  rcases h8 with h8 | ⟨h8, h9, h10⟩
  · exact .inl h8
  · refine .inr ⟨h8, h4, h9, h10, ?_⟩
    rcases Nat.lt_or_ge b0 a0 with h | h
    · rcases h7 h with h | h
      · exact .inl h
      · exact .inr (.inl h)
    · exact .inr (.inr h)
theorem TS.tr {a0 b0 a b p q u v : Nat} {odd : Bool} (h : TS a0 b0 a b p q u v odd) : TR a0 b0 a b p q u v odd := by
  obtain ⟨h1, h2, h3, h4⟩ := h
  rcases h4 with ⟨rfl, rfl, rfl, rfl⟩ | ⟨h5, h6, h7, h8, h9⟩
  · exact ⟨h1, h2, h3, by omega, by omega, by omega, by omega, .inl ⟨rfl, rfl, rfl, rfl⟩⟩
  · exact ⟨h1, h2, h3, h6, by omega, by omega, by omega, .inr ⟨h5, h7, h8⟩⟩
theorem TS.v_pos {a0 b0 a b p q u v : Nat} {odd : Bool} (h : TS a0 b0 a b p q u v odd) : 0 < v := by
  rcases h.h4 with h | h <;> omega
theorem TS.le_a {a0 b0 a b p q u v : Nat} {odd : Bool} (h : TS a0 b0 a b p q u v odd) : a ≤ a0 := by
  have := h.h1
  have := Nat.le_mul_of_pos_left a h.v_pos
  omega
theorem TS.le_v {a0 b0 a b p q u v : Nat} {odd : Bool} (h : TS a0 b0 a b p q u v odd) (ha : 0 < a) : v ≤ a0 := by
  have := h.h1
  have := Nat.le_mul_of_pos_right v ha
  omega
theorem TS.q_le {a0 b0 a b p q u v : Nat} {odd : Bool} (h : TS a0 b0 a b p q u v odd) : q ≤ v := by
  rcases h.h4 with h | h <;> omega
/-- The start, or remainders that are apart. -/
def Desc (a0 b0 a b p q u v : Nat) (odd : Bool) : Prop := b < a ∨ (a0 = a ∧ b0 = b ∧ p = 1 ∧ q = 0 ∧ u = 0 ∧ v = 1 ∧ odd = false)
theorem Desc.le {a0 b0 a b p q u v : Nat} {odd : Bool} (h : Desc a0 b0 a b p q u v odd) (h0 : b0 ≤ a0) : b ≤ a := by
  rcases h with h | h <;> omega
/-- One step or many more. -/
theorem TS.more {a0 b0 a1 b1 a2 b2 p1 q1 u1 v1 p2 q2 u2 v2 : Nat} {o1 o2 : Bool} (h : TS a0 b0 a1 b1 p1 q1 u1 v1 o1) (hd : Desc a0 b0 a1 b1 p1 q1 u1 v1 o1) (k : TS a1 b1 a2 b2 p2 q2 u2 v2 o2) :
    TS a0 b0 a2 b2 (p2 * p1 + q2 * u1) (p2 * q1 + q2 * v1) (u2 * p1 + v2 * u1) (u2 * q1 + v2 * v1) (o1 != o2) := h.comp k hd
/-- The factors behind more steps. -/
theorem cof {x0 y0 p1 q1 u1 v1 p2 q2 lx ly : Nat} (hx : lx = x0 * p1 + y0 * q1) (hy : ly = x0 * u1 + y0 * v1) : lx * p2 + ly * q2 = x0 * (p2 * p1 + q2 * u1) + y0 * (p2 * q1 + q2 * v1) := by
  subst hx hy
  simp only [Nat.add_mul, Nat.mul_add, Nat.mul_assoc, Nat.mul_comm p2, Nat.mul_comm q2]
  omega

/-- Two slices of words do not share a block. -/
def Dj (A : Option Addr) (l : List Nat) (B : Option Addr) (k : List Nat) : Prop := l ≠ [] → k ≠ [] → ∀ b o b' o', A = some ⟨b, o, none⟩ → B = some ⟨b', o', none⟩ → b ≠ b'
theorem Dj.symm {A B : Option Addr} {l k : List Nat} (h : Dj A l B k) : Dj B k A l := fun h1 h2 b o b' o' e1 e2 e3 => h h2 h1 b' o' b o e2 e1 e3.symm
theorem Dj.nil_l (A B : Option Addr) (k : List Nat) : Dj A [] B k := fun h => absurd rfl h
theorem Dj.nil_r (A B : Option Addr) (l : List Nat) : Dj A l B [] := fun _ h => absurd rfl h
theorem Dj.fresh {w w1 w2 : World} {A B : Option Addr} {l k : List Nat} (h : WS w A l) (ho : OwnS w1 w2 B k) (hs : w.heap.size ≤ w1.heap.size) : Dj A l B k := by
  intro h1 h2 b o b' o' e1 e2
  obtain ⟨b1, o1, e3, hlt, _⟩ := h.2 h1
  obtain ⟨g, L, e4, hg, _⟩ := ho h2
  rw [e1] at e3
  rw [e2] at e4
  injection e3 with e3
  injection e4 with e4
  injection e3 with e3
  injection e4 with e4
  omega
theorem Dj.more {A B : Option Addr} {l k l' k' : List Nat} (h : Dj A l B k) (hl : l ≠ []) (hk : k ≠ []) : Dj A l' B k' := fun _ _ => h hl hk
theorem Dj.off {w : World} {A B : Option Addr} {l k : List Nat} {g o : Nat} (h : Dj A l B k) (hA : A = some ⟨g, o, none⟩) (hl : l ≠ []) : Off B k g := fun hk b o' e => (h hl hk g o b o' hA e).symm

/-- A slice of the algorithm's own: words in canonical form in a block of their own. -/
structure Own (a W : World) (A : Option Addr) (c : Nat) (l : List Nat) : Prop where
  own : OwnS a W A l
  top : Top l
  cap : l.length ≤ c
theorem Own.ws {a W : World} {A : Option Addr} {c : Nat} {l : List Nat} (h : Own a W A c l) : WS W A l := h.own.ws
theorem Own.below {a W W' : World} {A : Option Addr} {c : Nat} {l : List Nat} (h : Own a W A c l) (hb : Below W.heap.size W W') : Own a W' A c l := ⟨h.own.below hb, h.top, h.cap⟩
theorem Own.mono {a a' W : World} {A : Option Addr} {c : Nat} {l : List Nat} (h : Own a' W A c l) (hs : a.heap.size ≤ a'.heap.size) : Own a W A c l := ⟨h.own.mono hs, h.top, h.cap⟩
theorem Own.nil_ (a W : World) (A : Option Addr) (c : Nat) : Own a W A c [] := ⟨fun h => absurd rfl h, top_nil, Nat.zero_le _⟩

/-- The words of the slice in cell 1 of the struct at s, as a number. -/
def bv (s : Nat) (W : World) : Nat :=
  match W.cell? ⟨s, 1, none⟩ with
  | some (.slice (some ⟨g, _, _⟩) n _) => (match W.heap[g]? with
    | some (.cells vs _ _) => val ((vs.toList.take n).map fun v => (intOf v).toNat)
    | _ => 0)
  | _ => 0
theorem words_back (L : List Nat) (n : Nat) : ((words L).toList.take n).map (fun v => (intOf v).toNat) = L.take n := by
  unfold words
  rw [List.map_take, List.map_map]
  congr 1
  have : ((fun v => (intOf v).toNat) ∘ fun (x : Nat) => Value.int .u32 (x : Int)) = id := by funext x; simp [intOf]
  rw [this, List.map_id]
theorem bv_eq {a W : World} {s cb : Nat} {B : Option Addr} {l : List Nat} (hc : W.cell? ⟨s, 1, none⟩ = some (.slice B l.length cb)) (h : OwnS a W B l) : bv s W = val l := by
  unfold bv
  rw [hc]
  by_cases h0 : l = []
  · subst h0
    cases B with
    | none => rfl
    | some p =>
      obtain ⟨g, o, d⟩ := p
      simp only [List.length_nil]
      split
      · simp [val]
      · rfl
  · obtain ⟨g, L, rfl, hg, hb, ht, hl⟩ := h h0
    simp only [hb.2]
    rw [words_back, ht]
end Go.Proofs.YtgljdfblgpdaaaaGreatDoor
