/- The calls of 'sane': what they return, of arguments in canonical form, wherever these lie. -/
import Derived.Test.YtaaipcjbmdbndaaDoorNumLaw
import Derived.Test.YtaaipcjbmdbndaaDoorNumBez
import Derived.Test.YtaaipcjbmdbndaaDoorNumGcd
import Derived.Test.YtaaipcjbmdbndaaDoorNumPow
import Derived.Test.YtaaipcjbmdbndaaDoorNumRoot
namespace Go.Proofs.YtaaipcjbmdbndaaDoor
open Go.RowKit

theorem canon_eq {n1 n2 : Bool} {l1 l2 : List Nat} (w1 : ∀ x ∈ l1, x < 4294967296) (w2 : ∀ x ∈ l2, x < 4294967296) (h1 : isB n1 l1 = true) (h2 : isB n2 l2 = true) (h : zI n1 l1 = zI n2 l2) : n1 = n2 ∧ l1 = l2 := by
  have e := same_iff w1 w2 h1 h2
  rw [decide_eq_true h, Bool.and_eq_true, beq_iff_eq, decide_eq_true_eq] at e
  exact e
theorem len_two {n : Bool} {l : List Nat} {x : Int} (hB : isB n l = true) (hz : zI n l = x) (hx : x.natAbs < 18446744073709551616) : l.length ≤ 2 := by
  have e : val l = x.natAbs := by rw [← hz]; unfold zI; split <;> simp
  exact top_len (isB_top hB) (by rw [e]; exact hx)

/-- Div of small canonical integers. -/
theorem Div_small (a w : World) (na nb : Bool) (A B : Option Addr) (c d : Nat) (l k : List Nat) (x y : Int) (hl : WS w A l) (hk : WS w B k) (hp : isB na l = true) (hq : isB nb k = true) (hx : zI na l = x) (hy : zI nb k = y) (hxl : x.natAbs < 18446744073709551616) (hyl : y.natAbs < 18446744073709551616) (hy0 : y ≠ 0) (hw : Below a.heap.size a w) :
    Calls Tryd.prog 24 #[.agg #[.bool na, .slice A l.length c], .agg #[.bool nb, .slice B k.length d]] w (QRes a (x / y) (x % y) 0) := by
  have h1 := len_two hp hx hxl
  have h2 := len_two hq hy hyl
  have h0 : 0 < k.length := Nat.pos_of_ne_zero (fun h => hy0 (by rw [← hy, List.eq_nil_of_length_eq_zero h, zI_nil]))
  rw [← hx, ← hy]
  exact Div_ok a w na nb A B l.length c k.length d l k rfl rfl (by omega) (by omega) hl hk hp hq h0 (fun W hW => divide_small W W A B l.length c k.length d l k rfl rfl h1 h2 (hl.below hW) (hk.below hW) (Nat.ne_of_gt (val_pos (isB_top hq) h0)) (b0 _)) hw

theorem Bez_12_18 (w : World) (na nb : Bool) (A B : Option Addr) (c d : Nat) (l k : List Nat) (hl : WS w A l) (hk : WS w B k) (hp : isB na l = true) (hq : isB nb k = true) (hx : zI na l = 12) (hy : zI nb k = 18) :
    Calls Tryd.prog 26 #[.agg #[.bool na, .slice A l.length c], .agg #[.bool nb, .slice B k.length d]] w (BRes w 6 2 (-1)) := by
  obtain ⟨rfl, rfl⟩ := canon_eq hl.1 (l2 := [12]) (n2 := false) (by simp) hp (by decide) (by rw [hx]; decide)
  obtain ⟨rfl, rfl⟩ := canon_eq hk.1 (l2 := [18]) (n2 := false) (by simp) hq (by decide) (by rw [hy]; decide)
  refine (Bezout_small w false false A B 1 c 1 d [12] [18] rfl rfl (by omega) (by omega) hl hk hp hq (by simp) (by decide)).mono ?_
  rintro e w' ⟨U, ⟨h1, z, h2⟩, h3⟩
  rw [show val [12] = 12 from rfl, show val [18] = 18 from rfl, show Nat.gcd 12 18 = 6 from by decide] at h1 h2 h3
  simp only [Bool.false_eq_true, if_false] at h2 h3
  have hU : U = 2 := by
    have h4 : U < 3 := by omega
    have h5 : U = 0 ∨ U = 1 ∨ U = 2 := by omega
    rcases h5 with rfl | rfl | rfl
    · simp at h2; omega
    · simp at h2; omega
    · rfl
  subst hU
  exact h3

theorem Gcd_12_18 (a w : World) (na nb : Bool) (A B : Option Addr) (c d : Nat) (l k : List Nat) (hl : WS w A l) (hk : WS w B k) (hp : isB na l = true) (hq : isB nb k = true) (hx : zI na l = -12) (hy : zI nb k = 18) (hw : Below a.heap.size a w) :
    Calls Tryd.prog 27 #[.agg #[.bool na, .slice A l.length c], .agg #[.bool nb, .slice B k.length d]] w (IRes a 6) := by
  obtain ⟨rfl, rfl⟩ := canon_eq hl.1 (l2 := [12]) (n2 := true) (by simp) hp (by decide) (by rw [hx]; decide)
  obtain ⟨rfl, rfl⟩ := canon_eq hk.1 (l2 := [18]) (n2 := false) (by simp) hq (by decide) (by rw [hy]; decide)
  have h := Gcd_small a w true false A B 1 c 1 d [12] [18] true true rfl rfl (by omega) (by omega) hl hk (by decide) (by decide) hw
  rw [show ite0 (true && true) ((Nat.gcd (val [12]) (val [18]) : Nat) : Int) = 6 from by decide] at h
  exact h

theorem Pow_m3_3 (a w : World) (na : Bool) (A : Option Addr) (c : Nat) (l : List Nat) (hl : WS w A l) (hp : isB na l = true) (hx : zI na l = -3) (hw : Below a.heap.size a w) :
    Calls Tryd.prog 29 #[.agg #[.bool na, .slice A l.length c], .int .i64 3] w fun e w' => ∃ n1 A1 c1 l1, e = .returned (.tuple #[.agg #[.bool n1, .slice A1 l1.length c1], .int .i64 0]) ∧ IP a w' n1 A1 c1 l1 (-27) ∧ Below a.heap.size a w' := by
  obtain ⟨rfl, rfl⟩ := canon_eq hl.1 (l2 := [3]) (n2 := true) (by simp) hp (by decide) (by rw [hx]; decide)
  have h := Pow_small a w true A c [3] 3 (by simp) (by omega) (by decide) (by decide) (by decide) (by decide) hl hw
  rw [show zI true [3] ^ 3 = -27 from by decide] at h
  exact h

theorem Sqrt_99' (a w : World) (na : Bool) (A : Option Addr) (c : Nat) (l : List Nat) (hl : WS w A l) (hp : isB na l = true) (hx : zI na l = 99) (hw : Below a.heap.size a w) :
    Calls Tryd.prog 30 #[.agg #[.bool na, .slice A l.length c]] w fun e w' => ∃ n1 A1 c1 l1, e = .returned (.tuple #[.agg #[.bool n1, .slice A1 l1.length c1], .int .i64 0]) ∧ IP a w' n1 A1 c1 l1 9 ∧ Below a.heap.size a w' := by
  obtain ⟨rfl, rfl⟩ := canon_eq hl.1 (l2 := [99]) (n2 := false) (by simp) hp (by decide) (by rw [hx]; decide)
  exact Sqrt_99 a w A c hl hw

theorem smallV_of {n : Bool} {l : List Nat} {x : Int} (hB : isB n l = true) (hx : zI n l = x) (h1 : -9223372036854775808 ≤ x) (h2 : x < 9223372036854775808) : smallV true n l = (x, 0) := by
  have hl := len_two hB hx (by omega)
  rw [small_spec hl, hx]
  have e : zI n l = if n then -(val l : Int) else (val l : Int) := rfl
  rw [hx] at e
  rw [if_neg (by simp), if_neg]
  cases n <;> simp at e ⊢ <;> omega
end Go.Proofs.YtaaipcjbmdbndaaDoor
