/- Each function of num returns, and leaves what lies as it is: for every integer, canonical or not. -/
import Derived.Test.YtaaipcjbmdbndaaDoorNumForm
import Derived.Test.YtaaipcjbmdbndaaDoorNumPErr
import Derived.Test.YtaaipcjbmdbndaaDoorNumClone
set_option linter.unusedSimpArgs false
set_option linter.unusedVariables false
namespace Go.Proofs.YtaaipcjbmdbndaaDoor
open Go.RowKit

/-- A call returned, and what lay is as it was. -/
def FX (w : World) (e : Ending) (w' : World) : Prop := (∃ v, e = .returned v) ∧ Below w.heap.size w w'
/-- An integer of at most 20 words, canonical or not. -/
structure AR (W : World) (A : Option Addr) (c : Nat) (l : List Nat) : Prop where
  cap : l.length ≤ c
  ws : WS W A l
  len : l.length ≤ 20
theorem AR.below {W W' : World} {A : Option Addr} {c : Nat} {l : List Nat} (h : AR W A c l) (hb : Below W.heap.size W W') : AR W' A c l := ⟨h.cap, h.ws.below hb, h.len⟩
section
variable {w : World} {n m : Bool} {A B : Option Addr} {c d : Nat} {l k : List Nat}
theorem ires_fx {z : Int} {e : Ending} {w' : World} (h : IRes w z e w') : FX w e w' := by
  obtain ⟨_, _, _, _, he, _, _, _, _, hb⟩ := h
  exact ⟨⟨_, he⟩, hb⟩
theorem Is_fx (h : AR w A c l) : Calls Tryd.prog 32 #[.agg #[.bool n, .slice A l.length c]] w (FX w) := by
  have e1 := h.len
  exact (Is_any n A l.length c l w rfl (by omega) h.ws).mono fun e w' h => ⟨⟨_, h.1⟩, h.2⟩
theorem Small_fx (h : AR w A c l) : Calls Tryd.prog 33 #[.agg #[.bool n, .slice A l.length c]] w (FX w) := by
  have e1 := h.len
  exact (Small_any n A l.length c l _ w rfl (by omega) h.ws rfl).mono fun e w' h => ⟨⟨_, h.1⟩, h.2⟩
theorem Bits_fx (h : AR w A c l) : Calls Tryd.prog 34 #[.agg #[.bool n, .slice A l.length c]] w (FX w) := by
  have e1 := h.len
  exact (Bits_any n A l.length c l _ w rfl (by omega) h.ws rfl).mono fun e w' h => ⟨⟨_, h.1⟩, h.2⟩
theorem Sign_fx (h : AR w A c l) : Calls Tryd.prog 23 #[.agg #[.bool n, .slice A l.length c]] w (FX w) := by
  have e1 := h.len
  exact (Sign_any n A l.length c l _ w rfl (by omega) h.ws rfl).mono fun e w' h => ⟨⟨_, h.1⟩, h.2⟩
theorem Neg_fx (h : AR w A c l) : Calls Tryd.prog 21 #[.agg #[.bool n, .slice A l.length c]] w (FX w) := by
  have e1 := h.len
  exact (Neg_any w w n A l.length c l _ rfl (by omega) h.ws rfl (b0 _)).mono fun e w' h => ires_fx h
theorem Abs_fx (h : AR w A c l) : Calls Tryd.prog 25 #[.agg #[.bool n, .slice A l.length c]] w (FX w) := by
  have e1 := h.len
  exact (Abs_any w w n A l.length c l _ rfl (by omega) h.ws rfl (b0 _)).mono fun e w' h => ires_fx h
theorem Cmp_fx (h : AR w A c l) (h2 : AR w B d k) : Calls Tryd.prog 22 #[.agg #[.bool n, .slice A l.length c], .agg #[.bool m, .slice B k.length d]] w (FX w) := by
  have e1 := h.len
  have e2 := h2.len
  exact (Cmp_any n m A B l.length c k.length d l k _ _ w rfl rfl (by omega) (by omega) h.ws h2.ws rfl rfl).mono fun e w' h => ⟨⟨_, h.1⟩, h.2⟩
theorem Add_fx (h : AR w A c l) (h2 : AR w B d k) : Calls Tryd.prog 17 #[.agg #[.bool n, .slice A l.length c], .agg #[.bool m, .slice B k.length d]] w (FX w) := by
  have e1 := h.len
  have e2 := h2.len
  exact (Add_any w w n m A B l.length c k.length d l k _ _ rfl rfl (by omega) (by omega) h.ws h2.ws rfl rfl (b0 _)).mono fun e w' h => ires_fx h
theorem Sub_fx (h : AR w A c l) (h2 : AR w B d k) : Calls Tryd.prog 20 #[.agg #[.bool n, .slice A l.length c], .agg #[.bool m, .slice B k.length d]] w (FX w) := by
  have e1 := h.len
  have e2 := h2.len
  exact (Sub_any w w n m A B l.length c k.length d l k _ _ rfl rfl (by omega) (by omega) h.ws h2.ws rfl rfl (b0 _)).mono fun e w' h => ires_fx h
theorem Gcd_fx (h : AR w A c l) (h2 : AR w B d k) : Calls Tryd.prog 27 #[.agg #[.bool n, .slice A l.length c], .agg #[.bool m, .slice B k.length d]] w (FX w) := by
  have e1 := h.len
  have e2 := h2.len
  exact (Gcd_any w w n m A B l.length c k.length d l k _ _ rfl rfl (by omega) (by omega) h.ws h2.ws rfl rfl (b0 _)).mono fun e w' h => ires_fx h
theorem Mul_fx (h : AR w A c l) (h2 : AR w B d k) : Calls Tryd.prog 18 #[.agg #[.bool n, .slice A l.length c], .agg #[.bool m, .slice B k.length d]] w (FX w) := by
  have e1 := h.len
  have e2 := h2.len
  exact (Mul_all w w n m A B l.length c k.length d l k _ _ rfl rfl (by omega) (by omega) h.cap h2.cap h.ws h2.ws rfl rfl (b0 _)).mono fun e w' h => ires_fx h
theorem Div_fx (h : AR w A c l) (h2 : AR w B d k) : Calls Tryd.prog 24 #[.agg #[.bool n, .slice A l.length c], .agg #[.bool m, .slice B k.length d]] w (FX w) := by
  have e1 := h.len
  have e2 := h2.len
  cases hp : isB n l
  · exact (Div_form w n m A B c d l k false _ (by omega) (by omega) h.ws h2.ws hp rfl (Bool.false_and _)).mono fun e w' h => ⟨⟨_, h.1⟩, h.2⟩
  · cases hq : isB m k
    · exact (Div_form w n m A B c d l k true false (by omega) (by omega) h.ws h2.ws hp hq rfl).mono fun e w' h => ⟨⟨_, h.1⟩, h.2⟩
    · rcases Nat.eq_zero_or_pos k.length with h0 | h0
      · exact (Div_zero w n m A B c d l k (by omega) h.ws h2.ws hp hq h0).mono fun e w' h => ⟨⟨_, h.1⟩, h.2⟩
      · refine (Div_any w w n m A B c d l k (by omega) (by omega) h.ws h2.ws hp hq h0 (b0 _)).mono ?_
        rintro e w' ⟨_, _, _, _, _, _, _, _, he, _, _, hb⟩
        exact ⟨⟨_, he⟩, hb⟩
theorem Bezout_fx (h : AR w A c l) (h2 : AR w B d k) : Calls Tryd.prog 26 #[.agg #[.bool n, .slice A l.length c], .agg #[.bool m, .slice B k.length d]] w (FX w) := by
  have e1 := h.len
  have e2 := h2.len
  cases hp : isB n l
  · exact (Bezout_form w n m A B c d l k false _ (by omega) (by omega) h.ws h2.ws hp rfl (Bool.false_and _)).mono fun e w' h => ⟨⟨_, h.1⟩, h.2⟩
  · cases hq : isB m k
    · exact (Bezout_form w n m A B c d l k true false (by omega) (by omega) h.ws h2.ws hp hq rfl).mono fun e w' h => ⟨⟨_, h.1⟩, h.2⟩
    · rcases Nat.eq_zero_or_pos k.length with h0 | h0
      · refine (Bezout_zero w n m A B c d l k (by omega) h.ws h2.ws hp hq h0).mono ?_
        rintro e w' ⟨_, _, _, _, _, _, _, _, _, _, _, _, he, _, _, _, hb⟩
        exact ⟨⟨_, he⟩, hb⟩
      · refine (Bezout_any w n m A B l.length c k.length d l k rfl rfl (by omega) (by omega) h.cap h.ws h2.ws hp hq h0).mono ?_
        rintro e w' ⟨_, _, _, _, _, _, _, _, _, _, _, _, _, _, he, _, _, _, hb⟩
        exact ⟨⟨_, he⟩, hb⟩
theorem Sqrt_fx (h : AR w A c l) : Calls Tryd.prog 30 #[.agg #[.bool n, .slice A l.length c]] w (FX w) := by
  have e1 := h.len
  cases hp : isB n l
  · exact (Sqrt_form w n A c l (by omega) hp h.ws).mono fun e w' h => ⟨⟨_, h.1⟩, h.2⟩
  · cases n
    · rcases Nat.eq_zero_or_pos l.length with h0 | h0
      · obtain rfl := List.eq_nil_of_length_eq_zero h0
        exact (Sqrt_zero w A c).mono fun e w' h => ⟨⟨_, h.1⟩, h.2⟩
      · refine (Sqrt_any w w A c l (by omega) hp h.ws (val_pos (isB_top hp) h0) (b0 _)).mono ?_
        rintro e w' ⟨_, _, _, _, _, _, _, he, _, hb⟩
        exact ⟨⟨_, he⟩, hb⟩
    · exact (Sqrt_arg w A c l (by omega) hp h.ws).mono fun e w' h => ⟨⟨_, h.1⟩, h.2⟩
theorem Print_fx (h : AR w A c l) (hT : Tens w) : Calls Tryd.prog 14 #[.agg #[.bool n, .slice A l.length c]] w (FX w) := by
  have e1 := h.len
  cases hp : isB n l
  · exact (Print_form w n A c l (by omega) h.ws hp).mono fun e w' h => ⟨⟨_, h.1⟩, h.2⟩
  · rcases Nat.eq_zero_or_pos l.length with h0 | h0
    · obtain rfl := List.eq_nil_of_length_eq_zero h0
      obtain rfl : n = false := isB_nil hp rfl
      exact (Print_zero w A c).mono fun e w' h => ⟨⟨_, h.1⟩, h.2⟩
    · refine (Print_pos w n A c l h0 (by omega) h.ws hp hT).mono ?_
      rintro e w' ⟨_, he, _, _, _, hb⟩
      exact ⟨⟨_, he⟩, hb⟩
theorem Pow_fx {x : Int} (h : AR w A c l) (h2 : x ≤ 20) : Calls Tryd.prog 29 #[.agg #[.bool n, .slice A l.length c], .int .i64 x] w (FX w) := by
  have e1 := h.len
  cases hp : isB n l
  · exact (Pow_form w n A c l x (by omega) hp h.ws).mono fun e w' h => ⟨⟨_, h.1⟩, h.2⟩
  · rcases Int.lt_or_le x 0 with h0 | h0
    · exact (Pow_arg w n A c l x h0 (by omega) hp h.ws).mono fun e w' h => ⟨⟨_, h.1⟩, h.2⟩
    · obtain ⟨y, rfl⟩ : ∃ y : Nat, x = (y : Int) := ⟨x.toNat, by omega⟩
      have hfit : ∀ j, j ≤ y → val l ^ j < BB 401 := fun j hj => by
        have h1 : val l ≤ BB 20 := Nat.le_of_lt (Nat.lt_of_lt_of_le (val_lt h.ws.1) (BB_mono e1))
        have h3 := Nat.pow_le_pow_left h1 j
        have h4 : BB 20 ^ j = BB (20 * j) := by unfold BB; rw [← Nat.pow_mul]
        rw [h4] at h3
        have h5 := BB_mono (show 20 * j ≤ 400 by omega)
        have h6 := BB_succ 400
        have h7 := BB_pos 400
        have h8 : BB 401 = BB (400 + 1) := rfl
        rw [h8, h6]
        generalize BB 400 = q at *
        omega
      have hlim : ¬ (1 < bl l ∧ 1048576 / bl l < y) := by
        rintro ⟨g1, g2⟩
        have g3 : bl l ≤ 640 := by
          rcases Nat.eq_zero_or_pos l.length with h0 | h0
          · unfold bl at g1 ⊢; rw [if_pos h0]; omega
          · have := (bl_bound h.ws.1 (isB_top hp) h0).2.2.1; omega
        have g4 : 1638 ≤ 1048576 / bl l := (Nat.le_div_iff_mul_le (by omega)).2 (by omega)
        omega
      refine (Pow_gen w w n A c l y 401 (by omega) (by omega) h.cap (by omega) hfit hp hlim h.ws (b0 _)).mono ?_
      rintro e w' ⟨_, _, _, _, he, _, hb⟩
      exact ⟨⟨_, he⟩, hb⟩
end
end Go.Proofs.YtaaipcjbmdbndaaDoor
