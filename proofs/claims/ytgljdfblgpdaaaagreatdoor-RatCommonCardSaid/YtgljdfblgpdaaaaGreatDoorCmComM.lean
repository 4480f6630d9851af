import Derived.Test.YtgljdfblgpdaaaaGreatDoorPbComB
import Derived.Test.YtgljdfblgpdaaaaGreatDoorCmNumEx
import Derived.Test.YtgljdfblgpdaaaaGreatDoorCmNumParse
set_option linter.unusedSimpArgs false
set_option linter.unusedVariables false
set_option maxRecDepth 100000
set_option maxHeartbeats 4000000
namespace Go.Proofs.YtgljdfblgpdaaaaGreatDoor
variable {l : List Nat}
theorem dvd_LM {x : Nat} (h : x ∈ l) : x ∣ LM l := by
 induction l with
 | nil => exact absurd h (by simp)
 | cons y l ih =>
  rw [LM_cons]
  rcases List.mem_cons.1 h with rfl | h
  ·exact Nat.dvd_lcm_left ..
  ·exact Nat.dvd_trans (ih h) (Nat.dvd_lcm_right ..)
theorem LM_dvd {m : Nat} (h : ∀ x ∈ l, x ∣ m) : LM l ∣ m := by
 induction l with
 | nil => rw [LM_nil]; exact Nat.one_dvd _
 | cons y l ih =>
  rw [LM_cons]
  exact Nat.lcm_dvd (h y (by simp)) (ih fun x hx => h x (by simp [hx]))
theorem common_one {l : List (Int × Nat)} (hb : ∀ p ∈ l, 0 < p.2 ∧ Nat.gcd p.1.natAbs p.2 = 1) {g : Nat} (hd : g ∣ LM (l.map (·.2)))
  (hn : ∀ p ∈ l, g ∣ (p.1 * ((LM (l.map (·.2)) / p.2 : Nat) : Int)).natAbs) : g = 1 := by
 obtain ⟨d, hdd⟩ : ∃ d, d = LM (l.map (·.2)) := ⟨_, rfl⟩
 have hpos : 0 < d := by
  rw [hdd]
  refine LM_pos fun x hx => ?_
  obtain ⟨p, hp, rfl⟩ := List.mem_map.1 hx
  exact (hb p hp).1
 rw [← hdd] at hd hn
 have h1 : ∀ p ∈ l, p.2 ∣ d / g := by
  intro p hp
  have hpd : p.2 ∣ d := by rw [hdd]; exact dvd_LM (List.mem_map.2 ⟨p, hp, rfl⟩)
  have h2 := hn p hp
  rw [Int.natAbs_mul, Int.natAbs_natCast] at h2
  obtain ⟨q, hq⟩ := hpd
  have hp0 := (hb p hp).1
  have hq1 : d / p.2 = q := by rw [hq]; exact Nat.mul_div_cancel_left q hp0
  rw [hq1] at h2
  have h3 : g ∣ q := by
   have h4 : g ∣ Nat.gcd (p.1.natAbs * q) (p.2 * q) := Nat.dvd_gcd h2 (by rw [← hq]; exact hd)
   rw [Nat.gcd_mul_right, (hb p hp).2, Nat.one_mul] at h4
   exact h4
  obtain ⟨r, hr⟩ := h3
  have hg0 : 0 < g := Nat.pos_of_dvd_of_pos hd hpos
  refine ⟨r, ?_⟩
  rw [hq, hr, Nat.mul_left_comm, Nat.mul_div_cancel_left _ hg0]
 have h2 : d ∣ d / g := by
  rw [hdd]
  refine LM_dvd fun x hx => ?_
  obtain ⟨p, hp, rfl⟩ := List.mem_map.1 hx
  rw [← hdd]
  exact h1 p hp
 have hg0 : 0 < g := Nat.pos_of_dvd_of_pos hd hpos
 have h3 := Nat.le_of_dvd (Nat.div_pos (Nat.le_of_dvd hpos hd) hg0) h2
 rcases Nat.lt_or_ge 1 g with h | h
 ·have := Nat.div_lt_self hpos h
  omega
 ·omega
end Go.Proofs.YtgljdfblgpdaaaaGreatDoor
