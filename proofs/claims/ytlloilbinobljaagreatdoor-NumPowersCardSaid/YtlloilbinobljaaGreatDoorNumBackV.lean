/- Powers and roots by values. -/
import Derived.Test.YtlloilbinobljaaGreatDoorNumTxt
import Derived.Test.YtlloilbinobljaaGreatDoorNumForm
set_option linter.unusedSimpArgs false
set_option linter.unusedVariables false
namespace Go.Proofs.YtlloilbinobljaaGreatDoor
open Go.RowKit

/-- A call returned the integer z and no error. -/
def RIE (w : World) (z : Int) (e : Ending) (w' : World) : Prop :=
  ∃ n A c l, e = .returned (.tuple #[.agg #[.bool n, .slice A l.length c], .int .i64 0]) ∧ IV w' n A c l z ∧ Below w.heap.size w w'
theorem pow2_lt {e n : Nat} (h : e < 32 * n) : 2 ^ e < BB n := by rw [bb_pow]; exact Nat.pow_lt_pow_right (by decide) h
/-- The number of bits of an integer's absolute value. -/
theorem bl_lt {l : List Nat} (hw : ∀ x ∈ l, x < 4294967296) (ht : Top l) : val l < 2 ^ bl l := by
  rcases Nat.eq_zero_or_pos l.length with h0 | h0
  · rw [List.eq_nil_of_length_eq_zero h0]; exact Nat.two_pow_pos _
  · exact (bl_bound hw ht h0).1
theorem Pow_iv {w : World} {n : Bool} {A : Option Addr} {c : Nat} {l : List Nat} {z : Int} {x : Nat} (h : IV w n A c l z) (hx : (bl l + 1) * x ≤ 5000) :
    Calls Tryz.prog 30 #[.agg #[.bool n, .slice A l.length c], .int .i64 (x : Int)] w (RIE w (z ^ x)) := by
  have e1 := h.len
  have hv := bl_lt h.ws.1 (isB_top h.can)
  have hxx : x ≤ 5000 := by
    have := Nat.le_mul_of_pos_left x (show 0 < bl l + 1 by omega)
    omega
  have hfit : ∀ j, j ≤ x → val l ^ j < BB 160 := fun j hj => by
    have h1 := Nat.pow_le_pow_left (Nat.le_of_lt hv) j
    rw [← Nat.pow_mul] at h1
    have h2 : bl l * j ≤ 5000 := by
      have h3 := Nat.mul_le_mul_left (bl l) hj
      have h4 : bl l * x ≤ (bl l + 1) * x := Nat.mul_le_mul_right x (by omega)
      omega
    refine Nat.lt_of_le_of_lt h1 ?_
    exact pow2_lt (by omega)
  have hlim : ¬ (1 < bl l ∧ 1048576 / bl l < x) := by
    rintro ⟨g1, g2⟩
    have g3 : x ≤ 1048576 / bl l := (Nat.le_div_iff_mul_le (by omega)).2 (by
      have h4 : bl l * x ≤ (bl l + 1) * x := Nat.mul_le_mul_right x (by omega)
      rw [Nat.mul_comm]
      omega)
    omega
  refine (Pow_gen w w n A c l x 300 (by omega) e1 h.cap (by omega) (fun j hj => Nat.lt_of_lt_of_le (hfit j hj) (BB_mono (by omega))) h.can hlim h.ws (b0 _)).mono ?_
  rintro e w' ⟨n1, A1, c1, l1, rfl, hi, hb⟩
  rw [h.val] at hi
  refine ⟨n1, A1, c1, l1, rfl, ip_iv hi ?_, hb⟩
  have := hfit x (Nat.le_refl x)
  rw [val_abs h.val] at this
  unfold Lt
  rw [Int.natAbs_pow]
  exact Nat.lt_of_lt_of_le this (BB_mono (by omega))
theorem lt_pow {l : List Nat} {n : Bool} {z : Int} {x : Nat} (hw : ∀ x ∈ l, x < 4294967296) (hcan : isB n l = true) (hval : zI n l = z) (hx : (bl l + 1) * x ≤ 5000) : Lt 160 (z ^ x) := by
  have hv := bl_lt hw (isB_top hcan)
  rw [val_abs hval] at hv
  unfold Lt
  rw [Int.natAbs_pow]
  have h1 := Nat.pow_le_pow_left (Nat.le_of_lt hv) x
  rw [← Nat.pow_mul] at h1
  refine Nat.lt_of_le_of_lt h1 ?_
  have h4 : bl l * x ≤ (bl l + 1) * x := Nat.mul_le_mul_right x (by omega)
  exact pow2_lt (by omega)
/-- A call of Sqrt returned the root of z and no error. -/
def RSQ (w : World) (z : Int) (e : Ending) (w' : World) : Prop := ∃ r : Int, 0 ≤ r ∧ r * r ≤ z ∧ z < (r + 1) * (r + 1) ∧ RIE w r e w'
theorem Sqrt_iv {w : World} {n : Bool} {A : Option Addr} {c : Nat} {l : List Nat} {z : Int} (h : IV w n A c l z) (hz : 0 ≤ z) :
    Calls Tryz.prog 27 #[.agg #[.bool n, .slice A l.length c]] w (RSQ w z) := by
  have e1 := h.len
  rcases Nat.eq_zero_or_pos l.length with h0 | h0
  · have hc := h.can
    have hv := h.val
    obtain rfl := List.eq_nil_of_length_eq_zero h0
    obtain rfl : n = false := isB_nil hc rfl
    refine (Sqrt_zero w A c).mono ?_
    rintro e w' ⟨rfl, hb⟩
    have hz0 : z = 0 := hv.symm
    subst hz0
    exact ⟨0, by omega, by omega, by omega, false, none, 0, [], rfl, .of (Nat.le_refl _) (WS.nil_ _ _) rfl rfl (lt_zero _), hb⟩
  · have hvp := val_pos (isB_top h.can) h0
    obtain rfl : n = false := by
      cases n
      · rfl
      · have := h.val
        unfold zI at this
        simp at this
        omega
    refine (Sqrt_any w w A c l (by omega) h.can h.ws hvp (b0 _)).mono ?_
    rintro e w' ⟨r, n1, A1, c1, l1, hr1, hr2, rfl, hi, hb⟩
    have hv : (val l : Int) = z := h.val
    have hrl : Lt 300 (r : Int) := by
      have h1 : r ≤ val l := by
        rcases Nat.eq_zero_or_pos r with h | h
        · omega
        · exact Nat.le_trans (Nat.le_mul_of_pos_left r h) hr1
      have h2 := val_lt h.ws.1
      unfold Lt
      rw [Int.natAbs_natCast]
      exact Nat.lt_of_le_of_lt h1 (Nat.lt_of_lt_of_le h2 (BB_mono e1))
    refine ⟨(r : Int), by omega, ?_, ?_, n1, A1, c1, l1, rfl, ip_iv hi hrl, hb⟩
    · rw [← hv]; exact_mod_cast hr1
    · rw [← hv]; exact_mod_cast hr2
theorem Sqrt_neg {w : World} {n : Bool} {A : Option Addr} {c : Nat} {l : List Nat} {z : Int} (h : IV w n A c l z) (hz : z < 0) :
    Calls Tryz.prog 27 #[.agg #[.bool n, .slice A l.length c]] w (ErrE 1 w) := by
  have e1 := h.len
  obtain rfl : n = true := by
    cases n
    · have := h.val
      unfold zI at this
      simp at this
      omega
    · rfl
  exact Sqrt_arg w A c l (by omega) h.can h.ws
theorem IsTxt.lt {s : ByteArray} {z : Int} (h : IsTxt s z) (hs : s.size ≤ 3000) : Lt 400 z := by
  rcases h with ⟨rfl, _⟩ | ⟨_, ds, rfl, hne, hp, hv⟩
  · exact lt_zero _
  · have h1 := dnum_lt ds hp.1
    have h2 : (10 : Nat) ^ ds.length ≤ 16 ^ ds.length := Nat.pow_le_pow_left (by decide) _
    have h3 : (16 : Nat) ^ ds.length = 2 ^ (4 * ds.length) := by rw [show (16 : Nat) = 2 ^ 4 from rfl, ← Nat.pow_mul]
    have h4 : ds.length ≤ 3000 := by
      have : ((if z < 0 then [45] else []) ++ ds : List UInt8).length ≤ 3000 := hs
      rw [List.length_append] at this
      omega
    have h5 : 2 ^ (4 * ds.length) < BB 400 := pow2_lt (by omega)
    unfold Lt
    rw [← hv]
    omega
end Go.Proofs.YtlloilbinobljaaGreatDoor
