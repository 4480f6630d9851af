/- Integers: what num's functions return of their values. -/
import Derived.Test.YtaaipcjbmdbndaaDoorNumCmp
import Derived.Test.YtaaipcjbmdbndaaDoorNumDiff
import Derived.Test.YtaaipcjbmdbndaaDoorNumMul
import Derived.Test.YtaaipcjbmdbndaaDoorShelf
namespace Go.Proofs.YtaaipcjbmdbndaaDoor
open Go.RowKit

/-- The integer of a sign and words. -/
def zI (neg : Bool) (l : List Nat) : Int := if neg then -(val l : Int) else (val l : Int)
/-- A call returned the integer z in canonical form. -/
def IRes (a : World) (z : Int) (e : Ending) (w' : World) : Prop :=
  ∃ neg A c l, e = .returned (.agg #[.bool neg, .slice A l.length c]) ∧ l.length ≤ c ∧ OwnS a w' A l ∧ isB neg l = true ∧ zI neg l = z ∧ Below a.heap.size a w'

theorem ires_zero (a w : World) (h : Below a.heap.size a w) : IRes a 0 (.returned (.agg #[.bool false, .slice none 0 0])) w := ⟨false, none, 0, [], rfl, Nat.le_refl _, fun h => absurd rfl h, rfl, rfl, h⟩
theorem zI_nil (neg : Bool) : zI neg [] = 0 := by cases neg <;> rfl

set_option maxRecDepth 100000 in
set_option maxHeartbeats 400000 in
/-- 'signed' of a sign and the words of a number. -/
theorem signed_res (a w : World) (neg : Bool) (A : Option Addr) (c : Nat) (l : List Nat) (hm : l.length ≤ 4000000) (hc : l.length ≤ c) (hl : OwnS a w A l) (ht : Top l) (hw : Below a.heap.size a w) :
    Calls Tryd.prog 42 #[.bool neg, .slice A l.length c] w (IRes a (zI neg l)) := by
  refine (signed_any neg A l.length c w hm).mono ?_
  rintro e w' ⟨rfl, hb⟩
  by_cases h0 : l.length = 0
  · rw [if_pos h0]
    obtain rfl := List.eq_nil_of_length_eq_zero h0
    rw [zI_nil]
    exact ires_zero a w' (bt hw hb)
  · rw [if_neg h0]
    exact ⟨neg, A, c, l, rfl, hc, hl.below hb, isB_of ht (fun h => absurd h h0), rfl, bt hw hb⟩

/-- The same, and what the call leaves of the world ahead of it. -/
theorem signed_both (a w : World) (neg : Bool) (A : Option Addr) (c : Nat) (l : List Nat) (hm : l.length ≤ 4000000) (hc : l.length ≤ c) (hl : OwnS a w A l) (ht : Top l) (hw : Below a.heap.size a w) :
    Calls Tryd.prog 42 #[.bool neg, .slice A l.length c] w fun e w' => IRes a (zI neg l) e w' ∧ Below w.heap.size w w' := by
  refine (signed_any neg A l.length c w hm).mono ?_
  rintro e w' ⟨rfl, hb⟩
  refine ⟨?_, hb⟩
  by_cases h0 : l.length = 0
  · rw [if_pos h0]
    obtain rfl := List.eq_nil_of_length_eq_zero h0
    rw [zI_nil]
    exact ires_zero a w' (bt hw hb)
  · rw [if_neg h0]
    exact ⟨neg, A, c, l, rfl, hc, hl.below hb, isB_of ht (fun h => absurd h h0), rfl, bt hw hb⟩

theorem bln_aux : ∀ (f x : Nat), x < 2 ^ f → ∀ g, f ≤ g → Lib.bitLenAux g x = Lib.bitLenAux f x
  | 0, x, h, g, _ => by
    have : x = 0 := by simp at h; exact h
    subst this
    cases g <;> simp [Lib.bitLenAux]
  | f + 1, x, h, 0, hg => by omega
  | f + 1, x, h, g + 1, hg => by
    unfold Lib.bitLenAux
    by_cases h0 : x = 0
    · rw [if_pos h0, if_pos h0]
    · rw [if_neg h0, if_neg h0, bln_aux f (x / 2) (by rw [Nat.pow_succ] at h; omega) g (by omega)]
theorem bitLen_half {x : Nat} (h0 : x ≠ 0) (h : x < 18446744073709551616) : Lib.bitLen x = 1 + Lib.bitLen (x / 2) := by
  unfold Lib.bitLen
  rw [bln_aux 63 (x / 2) (by omega) 64 (by omega)]
  show Lib.bitLenAux (63 + 1) x = _
  rw [Lib.bitLenAux, if_neg h0]
theorem bitLen_zero : Lib.bitLen 0 = 0 := rfl
/-- How many bits the number of words has. -/
def bl (l : List Nat) : Nat := if l.length = 0 then 0 else 32 * (l.length - 1) + Lib.bitLen (gd l (l.length - 1))
theorem bitLen_le : ∀ (f x : Nat), Lib.bitLenAux f x ≤ f
  | 0, _ => Nat.le_refl _
  | f + 1, x => by
    unfold Lib.bitLenAux
    split
    · omega
    · have := bitLen_le f (x / 2); omega

set_option maxRecDepth 100000 in
set_option maxHeartbeats 400000 in
theorem bitLen_any (A : Option Addr) (n c : Nat) (l : List Nat) (w : World) (hn : l.length = n) (hm : n ≤ 4000000) (hws : WS w A l) :
    Calls Tryd.prog 60 #[.slice A n c] w fun e w' => e = .returned (.int .i64 (bl l : Int)) ∧ w = w' := by
  subst hn
  by_cases h0 : l.length = 0
  · have e : bl l = 0 := by unfold bl; rw [if_pos h0]
    rw [e, h0]
    clear e h0
    go_enter Tryd.func60, Tryd.ntmps60
    go_wp2_with fail
    go_ret
    exact ⟨rfl, rfl⟩
  · have e : bl l = 32 * (l.length - 1) + Lib.bitLen (gd l (l.length - 1)) := by unfold bl; rw [if_neg h0]
    rw [e]
    have hz : ((l.length : Int) == 0) = false := beq_eq_false_iff_ne.2 (by omega)
    have hl1 : 1 ≤ (l.length : Int) := by omega
    have hx := hws.lt (l.length - 1)
    obtain ⟨b, off, rfl, hblt, hc⟩ := hws.at_ (by omega)
    have hc1 := hc (l.length - 1) (by omega)
    have hbl : Lib.bitLen (gd l (l.length - 1)) ≤ 64 := bitLen_le 64 _
    clear hc e
    generalize gd l (l.length - 1) = x at *
    generalize hbe : Lib.bitLen x = q at *
    have HB := Lib.hid hbe
    clear hbe
    go_enter Tryd.func60, Tryd.ntmps60
    go_wp2_with fail
    refine (Tryd.bits_Len32 (x : Int) _ (by omega) (by omega)).mono ?_
    rintro e w1 ⟨rfl, rfl⟩
    rw [Int.toNat_natCast, HB.out]
    go_wp2_with fail
    go_ret
    exact ⟨ret_int (by omega), rfl⟩

set_option maxRecDepth 100000 in
set_option maxHeartbeats 400000 in
theorem Bits_any (neg : Bool) (A : Option Addr) (n c : Nat) (l : List Nat) (p : Bool) (w : World) (hn : l.length = n) (hm : n ≤ 4000000) (hl : WS w A l) (hp : isB neg l = p) :
    Calls Tryd.prog 34 #[.agg #[.bool neg, .slice A n c]] w fun e w' => e = .returned (.int .i64 (if p then (bl l : Int) else 0)) ∧ Below w.heap.size w w' := by
  subst hn
  have HP := Lib.hid hp
  clear hp
  cases p
  · go_enter Tryd.func34, Tryd.ntmps34
    go_wp2_with fail
    refine (Is_any neg A _ c l _ rfl hm (hl.below (ba (b0 _) _))).mono ?_
    rintro e w1 ⟨rfl, hb⟩
    rw [HP.out]
    obtain ⟨hc1, hf1⟩ := bcell hb
    have hz1 := hb.size
    go_wp2_with fail
    go_ret
    exact ⟨rfl, bt (ba (b0 _) _) hb⟩
  · go_enter Tryd.func34, Tryd.ntmps34
    go_wp2_with fail
    refine (Is_any neg A _ c l _ rfl hm (hl.below (ba (b0 _) _))).mono ?_
    rintro e w1 ⟨rfl, hb⟩
    rw [HP.out]
    obtain ⟨hc1, hf1⟩ := bcell hb
    have hz1 := hb.size
    go_wp2_with fail
    refine (bitLen_any A _ c l _ rfl hm (hl.below (bt (ba (b0 _) _) hb))).mono ?_
    rintro e w2 ⟨rfl, rfl⟩
    go_wp2_with fail
    go_ret
    exact ⟨rfl, bt (ba (b0 _) _) hb⟩
end Go.Proofs.YtaaipcjbmdbndaaDoor
