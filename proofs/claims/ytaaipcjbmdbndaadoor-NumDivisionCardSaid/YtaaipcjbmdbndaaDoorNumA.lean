/- The contracts of num's small functions. -/
import Derived.Test.YtaaipcjbmdbndaaDoorNumBase
import Derived.Test.YtaaipcjbmdbndaaDoorRows
namespace Go.Proofs.YtaaipcjbmdbndaaDoor
open Go.RowKit

set_option maxHeartbeats 400000 in
theorem Is_any (neg : Bool) (A : Option Addr) (n c : Nat) (l : List Nat) (w : World) (hn : l.length = n) (hm : n ≤ 4000000) (hws : WS w A l) :
    Calls Tryd.prog 32 #[.agg #[.bool neg, .slice A n c]] w fun e w' => e = .returned (.bool (isB neg l)) ∧ Below w.heap.size w w' := by
  subst hn
  by_cases h0 : l.length = 0
  · have e1 : isB neg l = !neg := by unfold isB; rw [if_pos h0]
    have E1 := Lib.hid e1
    clear e1
    rw [h0]
    clear h0
    go_enter Tryd.func32, Tryd.ntmps32
    go_wp2
    go_ret
    exact ⟨ret_bool E1.out.symm, (Below.refl _ _).alloc (Nat.le_refl _) _⟩
  · obtain ⟨b, off, rfl, hlt, hc⟩ := hws.at_ (by omega)
    have e1 : isB neg l = (((gd l (l.length - 1) : Nat) : Int) != 0) := by unfold isB; rw [if_neg h0]
    have E1 := Lib.hid e1
    have hc1 := hc (l.length - 1) (by omega)
    have hz : ((l.length : Int) == 0) = false := beq_eq_false_iff_ne.2 (by omega)
    have hl1 : 1 ≤ (l.length : Int) := by omega
    have hx := hws.lt (l.length - 1)
    clear e1 hc
    generalize hl : gd l (l.length - 1) = x at *
    clear hl
    go_enter Tryd.func32, Tryd.ntmps32
    go_wp2
    go_ret
    exact ⟨ret_bool E1.out.symm, (Below.refl _ _).alloc (Nat.le_refl _) _⟩

set_option maxHeartbeats 400000 in
theorem both_any (na nb : Bool) (A B : Option Addr) (n c m d : Nat) (l k : List Nat) (p q : Bool) (w : World) (hn : l.length = n) (hm : k.length = m) (hnm : n ≤ 4000000) (hmm : m ≤ 4000000) (hl : WS w A l) (hk : WS w B k) (hp : isB na l = p) (hq : isB nb k = q) :
    Calls Tryd.prog 48 #[.agg #[.bool na, .slice A n c], .agg #[.bool nb, .slice B m d]] w fun e w' => e = .returned (.bool (p && q)) ∧ Below w.heap.size w w' := by
  subst hn hm
  have HP := Lib.hid hp
  have HQ := Lib.hid hq
  clear hp hq
  cases p
  · go_enter Tryd.func48, Tryd.ntmps48
    go_wp2_with (go_at_call 32; refine (Is_any na A _ c l _ rfl hnm (hl.below (by go_grown))).mono ?_; rintro e w1 ⟨rfl, hb⟩; rw [HP.out]; obtain ⟨hc1, hf1⟩ := bcell hb; have hz1 := hb.size)
    go_ret
    exact ⟨rfl, bt (ba (ba (b0 _) _) _) hb⟩
  · go_enter Tryd.func48, Tryd.ntmps48
    go_wp2_with fail
    refine (Is_any na A _ c l _ rfl hnm (hl.below (by go_grown))).mono ?_
    rintro e w1 ⟨rfl, hb⟩
    rw [HP.out]
    obtain ⟨hc1, hf1⟩ := bcell hb
    have hz1 := hb.size
    go_wp2_with fail
    refine (Is_any nb B _ d k _ rfl hmm (hk.below (bt (ba (ba (b0 _) _) _) hb))).mono ?_
    rintro e w2 ⟨rfl, hb2⟩
    rw [HQ.out]
    go_wp2_with fail
    go_ret
    exact ⟨ret_bool (by simp), bt (bt (ba (ba (b0 _) _) _) hb) hb2⟩

set_option maxHeartbeats 400000 in
theorem wordAt_any (A : Option Addr) (n c : Nat) (i : Int) (l : List Nat) (w : World) (hn : l.length = n) (hm : n ≤ 4000000) (hi : 0 ≤ i) (hi2 : i ≤ 4000000) (hws : WS w A l) :
    Calls Tryd.prog 85 #[.slice A n c, .int .i64 i] w fun e w' => e = .returned (.int .u32 ((gd l i.toNat : Nat) : Int)) ∧ w = w' := by
  subst hn
  obtain ⟨j, rfl⟩ := Int.eq_ofNat_of_zero_le hi
  by_cases h0 : j < l.length
  · obtain ⟨b, off, rfl, hlt, hc⟩ := hws.at_ (by omega)
    have hc1 := hc j h0
    rw [Int.toNat_natCast]
    clear hc
    go_enter Tryd.func85, Tryd.ntmps85
    go_wp2
    go_ret
    exact ⟨rfl, rfl⟩
  · have e : gd l j = 0 := gd_end (by omega)
    have E := Lib.hid e
    clear e
    rw [Int.toNat_natCast, E.out]
    go_enter Tryd.func85, Tryd.ntmps85
    go_wp2
    go_ret
    exact ⟨rfl, rfl⟩

set_option maxHeartbeats 400000 in
theorem signed_any (neg : Bool) (A : Option Addr) (n c : Nat) (w : World) (hm : n ≤ 4000000) :
    Calls Tryd.prog 42 #[.bool neg, .slice A n c] w fun e w' => e = .returned (if n = 0 then .agg #[.bool false, .slice none 0 0] else .agg #[.bool neg, .slice A n c]) ∧ Below w.heap.size w w' := by
  by_cases h0 : n = 0
  · subst h0
    go_enter Tryd.func42, Tryd.ntmps42
    go_wp2
    go_returns
    exact ⟨rfl, ba (b0 _) _⟩
  · rw [if_neg h0]
    have hz : ((n : Int) == 0) = false := beq_eq_false_iff_ne.2 (by omega)
    go_enter Tryd.func42, Tryd.ntmps42
    go_wp2
    go_returns
    exact ⟨rfl, ba (b0 _) _⟩

/-- What 'trim' returns: the slice up to the last word that is not 0. -/
def TrimP (A : Option Addr) (n c : Nat) (l : List Nat) (w : World) (e : Ending) (w' : World) : Prop :=
  (∃ k, k ≤ n ∧ e = .returned (.slice A k c) ∧ (0 < k → gd l (k - 1) ≠ 0) ∧ (∀ j, k ≤ j → gd l j = 0)) ∧ w = w'

set_option maxHeartbeats 400000 in
theorem trim_any (A : Option Addr) (n c : Nat) (l : List Nat) (w : World) (hn : l.length = n) (hm : n ≤ 4000000) (hnc : n ≤ c) (hws : WS w A l) :
    Calls Tryd.prog 69 #[.slice A n c] w (TrimP A n c l w) := by
  subst hn
  go_enter Tryd.func69, Tryd.ntmps69
  go_wp2
  go_loop [3] (fun n => ∃ k : Nat, k ≤ l.length ∧ n = .int .i64 k ∧ ∀ j, k ≤ j → gd l j = 0) (fun n => (intOf n).toNat)
  case atStart => exact ⟨l.length, Nat.le_refl _, rfl, fun j hj => gd_end hj⟩
  case round =>
    obtain ⟨k, hk, rfl, hz⟩ := hrel
    have HZ := Lib.hid hz
    clear hz
    rcases Nat.eq_zero_or_pos k with rfl | h0
    · go_wp2
      go_ret
      exact ⟨⟨0, by omega, rfl, fun h => absurd h (by omega), HZ.out⟩, rfl⟩
    · obtain ⟨b, off, rfl, hlt, hc⟩ := hws.at_ (by omega)
      have hc1 := hc (k - 1) (by omega)
      have hx2 := hws.lt (k - 1)
      clear hc
      by_cases hx0 : gd l (k - 1) = 0
      · have H0 := Lib.hid hx0
        rw [hx0] at hc1
        clear hx0
        go_wp2
        go_round
        case rel =>
          refine ⟨k - 1, by omega, by go_num, fun j hj => ?_⟩
          rcases Nat.lt_or_ge j k with h1 | h1
          · have : j = k - 1 := by omega
            rw [this]; exact H0.out
          · exact HZ.out j h1
        case measure => simp [intOf]; omega
      · have H0 := Lib.hid hx0
        have hz1 : (((gd l (k - 1) : Nat) : Int) == 0) = false := beq_eq_false_iff_ne.2 (by omega)
        clear hx0
        go_wp2
        go_ret
        exact ⟨⟨k, by omega, rfl, fun _ => H0.out, HZ.out⟩, rfl⟩

/-- 'trim' of the beginning of a block that was made since the world a. -/
theorem trim_own (a w : World) (g n c : Nat) (L : List Nat) (N : Nat) (hm : n ≤ 4000000) (hnc : n ≤ c) (hg : a.heap.size ≤ g) (hb : Blk w g L) (hn : n ≤ L.length) (hv : val (L.take n) = N) (hw : Below a.heap.size a w) :
    Calls Tryd.prog 69 #[.slice (some ⟨g, 0, none⟩) n c] w (Res a N) := by
  have hws := hb.ws (o := 0) (n := n) (by omega)
  rw [List.drop_zero] at hws
  refine (trim_any (some ⟨g, 0, none⟩) n c (L.take n) w (by rw [List.length_take]; omega) hm hnc hws).mono ?_
  rintro e w' ⟨⟨k, hk, rfl, ht, hz⟩, rfl⟩
  have hl : ((L.take n).take k).length = k := by rw [List.length_take, List.length_take]; omega
  refine ⟨some ⟨g, 0, none⟩, c, (L.take n).take k, by rw [hl], by omega, fun _ => ⟨g, L, rfl, hg, hb, ?_, by omega⟩, fun h0 => ?_, by rw [val_take_top _ _ hz, hv], hw⟩
  · rw [hl, List.take_take, Nat.min_eq_left hk]
  · rw [hl] at h0 ⊢
    rw [gd_take (by omega)]
    exact ht h0
end Go.Proofs.YtaaipcjbmdbndaaDoor
