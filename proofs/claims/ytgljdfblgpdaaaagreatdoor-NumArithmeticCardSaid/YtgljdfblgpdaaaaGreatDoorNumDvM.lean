/- Division word by word, as the specification does it: the plain mathematics. -/
import Derived.Test.YtgljdfblgpdaaaaGreatDoorNumWMul
set_option linter.unusedSimpArgs false
set_option linter.unusedVariables false
namespace Go.Proofs.YtgljdfblgpdaaaaGreatDoor
open Go.RowKit

theorem dv_sub {vT vS g vd K bo ca x z p t : Nat} (h : vT + g * vd = vS + K * (bo + ca)) (hp : p = x * g + ca) (ht : t + p % 4294967296 + bo = z + 4294967296) (hc : t / 4294967296 ≤ 1) :
    vT + K * (t % 4294967296) + g * (vd + K * x) = vS + K * z + K * 4294967296 * ((1 - t / 4294967296) + p / 4294967296) := by
  obtain ⟨xg, hxg⟩ : ∃ xg, xg = x * g := ⟨_, rfl⟩
  obtain ⟨c, hcc⟩ : ∃ c, c = t / 4294967296 := ⟨_, rfl⟩
  obtain ⟨q, hq⟩ : ∃ q, q = p / 4294967296 := ⟨_, rfl⟩
  obtain ⟨z', hz'⟩ : ∃ z', z' = t % 4294967296 := ⟨_, rfl⟩
  have e : z' + xg + (bo + ca) = z + 4294967296 * ((1 - c) + q) := by
    rw [hxg] at *
    have := Nat.div_add_mod p 4294967296
    have := Nat.div_add_mod t 4294967296
    omega
  rw [← hcc, ← hq, ← hz']
  have eK := congrArg (fun y => K * y) e
  simp only [Nat.mul_add K] at eK
  have e1 : g * (vd + K * x) = g * vd + K * xg := by rw [hxg, Nat.mul_add, Nat.mul_left_comm, Nat.mul_comm g x]
  have e2 : K * 4294967296 * ((1 - c) + q) = K * (4294967296 * ((1 - c) + q)) := Nat.mul_assoc _ _ _
  rw [e1, e2]
  rw [Nat.mul_add K] at h
  omega

theorem dv_guess {U D K dt top g lo : Nat} (hU : U = lo + K * top) (hlo : lo < K) (hD : K * dt ≤ D) (hg : top < (g + 1) * dt) : U < (g + 1) * D := by
  have h1 : K * (top + 1) ≤ K * ((g + 1) * dt) := Nat.mul_le_mul_left K hg
  have h2 : (g + 1) * (K * dt) ≤ (g + 1) * D := Nat.mul_le_mul_left _ hD
  have h3 : K * ((g + 1) * dt) = (g + 1) * (K * dt) := Nat.mul_left_comm _ _ _
  rw [Nat.mul_add] at h1
  omega

theorem dv_end {a b Q R P : Nat} (hP : 0 < P) (hb : 0 < b) (h : Q * (b * P) + R = a * P) (hR : R < b * P) : Q = a / b ∧ R = (a % b) * P := by
  have hbP : 0 < b * P := Nat.mul_pos hb hP
  have h1 := (Nat.div_mod_unique (a := a * P) (b := b * P) (c := R) (d := Q) hbP).2 ⟨by rw [Nat.mul_comm (b * P) Q]; omega, hR⟩
  rw [Nat.mul_div_mul_right _ _ hP, Nat.mul_mod_mul_right] at h1
  exact ⟨h1.1.symm, h1.2.symm⟩

/-- The correction: one more d is added. -/
theorem dv_fix {W W' c U g D K : Nat} (h : W + (g + 1) * D = U + K) (ha : W' + K * c = W + D) (hc : c ≤ 1) : W' + g * D = U + K * (1 - c) := by
  rw [Nat.add_mul, Nat.one_mul] at h
  rcases Nat.le_one_iff_eq_zero_or_eq_one.1 hc with rfl | rfl
  · simp at *; omega
  · simp at *; omega

theorem bb_pow2 (n : Nat) : BB n = 2 ^ (32 * n) := by unfold BB; rw [show (4294967296 : Nat) = 2 ^ 32 from rfl, ← Nat.pow_mul]
theorem val_drop_cons (L : List Nat) {k : Nat} (h : k < L.length) : val (L.drop k) = gd L k + 4294967296 * val (L.drop (k + 1)) := by
  rw [List.drop_eq_getElem_cons h, gd_at h]
  rfl
theorem val_seg_drop (L : List Nat) (k n : Nat) (h : k + n ≤ L.length) : val (L.drop k) = val (seg L k n) + BB n * val (L.drop (k + n)) := by
  have h1 := val_append (seg L k n) (L.drop (k + n))
  rw [seg_length h] at h1
  rw [← h1]
  congr 1
  unfold seg
  rw [← List.drop_drop, List.take_append_drop]
theorem val_take_drop (L : List Nat) (k : Nat) (h : k ≤ L.length) : val L = val (L.take k) + BB k * val (L.drop k) := by
  have h1 := val_append (L.take k) (L.drop k)
  rw [List.take_append_drop, List.length_take, Nat.min_eq_left h] at h1
  exact h1
theorem val_lt_len {l : List Nat} {n : Nat} (h : ∀ x ∈ l, x < 4294967296) (hn : l.length ≤ n) : val l < BB n :=
  Nat.lt_of_lt_of_le (val_lt h) (Nat.pow_le_pow_right (by decide) hn)
theorem spl_take (L : List Nat) (o : Nat) (S : List Nat) (h : o ≤ L.length) : (spl L o S).take o = L.take o := by
  unfold spl
  rw [List.append_assoc, List.take_append_of_le_length (by rw [List.length_take]; omega), List.take_take, Nat.min_self]
theorem spl_drop (L : List Nat) (o : Nat) (S : List Nat) (h : o ≤ L.length) : (spl L o S).drop o = S ++ L.drop (o + S.length) := by
  unfold spl
  have e : (L.take o).length = o := by rw [List.length_take]; omega
  rw [List.append_assoc, List.drop_append_of_le_length (by omega), List.drop_eq_nil_of_le (by omega)]
  rfl

theorem dv_hz {L : List Nat} {D k n : Nat} (hD : D < BB n) (hk : k + n < L.length) (hr : val (L.drop (k + 1)) < D) : val (L.drop (k + (n + 1))) = 0 := by
  have h1 := val_seg_drop L (k + 1) n (by omega)
  rw [show k + 1 + n = k + (n + 1) by omega] at h1
  rcases Nat.eq_zero_or_pos (val (L.drop (k + (n + 1)))) with h | h
  · exact h
  · have h2 := Nat.le_mul_of_pos_right (BB n) h
    omega
theorem dv_set {Q : List Nat} {k g : Nat} (hkQ : k < Q.length) (hQ0 : gd Q k = 0) : val (Q.set k g) = val Q + BB k * g := by
  have h1 := val_take_drop (Q.set k g) k (by rw [List.length_set]; omega)
  have h2 := val_take_drop Q k (by omega)
  have h3 : (Q.set k g).take k = Q.take k := by rw [List.take_set_of_le (Nat.le_refl _)]
  have h4 : (Q.set k g).drop k = g :: Q.drop (k + 1) := by
    rw [List.drop_eq_getElem_cons (by rw [List.length_set]; exact hkQ), List.getElem_set_self, List.drop_set_of_lt (by omega)]
  have h5 := val_drop_cons Q hkQ
  rw [hQ0, Nat.zero_add] at h5
  have h6 : val (g :: Q.drop (k + 1)) = g + val (Q.drop k) := by rw [h5]; rfl
  rw [h3, h4, h6, Nat.mul_add] at h1
  omega
/-- A round of the outer loop: the window of n + 1 words at place k holds U before and W behind, U = g D + W, W < D. -/
theorem dv_round {L Q T : List Nat} {A D g k n : Nat} (hD : D < BB n) (hk : k + n < L.length) (hT : T.length = n + 1) (hi : val Q * D + val L = A) (hr : val (L.drop (k + 1)) < D)
    (hW : val T + g * D = val (seg L k (n + 1))) (hWD : val T < D) (hkQ : k < Q.length) (hQ0 : gd Q k = 0) :
    val (Q.set k g) * D + val (spl L k T) = A ∧ val ((spl L k T).drop k) < D := by
  have hz := dv_hz hD hk hr
  have hd : val ((spl L k T).drop k) = val T := by
    rw [spl_drop L k T (by omega), val_append, hT, hz, Nat.mul_zero, Nat.add_zero]
  have hLd : val (L.drop k) = val (seg L k (n + 1)) := by
    rw [val_seg_drop L k (n + 1) (by omega), hz, Nat.mul_zero, Nat.add_zero]
  have hs1 := val_take_drop (spl L k T) k (by rw [spl_length (by omega)]; omega)
  have hs2 := val_take_drop L k (by omega)
  rw [spl_take L k T (by omega), hd] at hs1
  rw [hLd, ← hW, Nat.mul_add] at hs2
  refine ⟨?_, by rw [hd]; exact hWD⟩
  rw [dv_set hkQ hQ0, hs1, Nat.add_mul, Nat.mul_assoc]
  omega
end Go.Proofs.YtgljdfblgpdaaaaGreatDoor
