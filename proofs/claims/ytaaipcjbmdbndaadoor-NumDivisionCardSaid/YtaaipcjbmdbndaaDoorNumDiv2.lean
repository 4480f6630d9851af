/- divide of at most two words by at most two. -/
import Derived.Test.YtaaipcjbmdbndaaDoorNumDiv
import Derived.Test.YtaaipcjbmdbndaaDoorNumCmp
import Derived.Deep.RegionHeld3
import Derived.Deep.RegionWith
namespace Go.Proofs.YtaaipcjbmdbndaaDoor
open Go.RowKit

/-- A call returned the words of two numbers, in memory of its own. -/
def DRes (a : World) (N M : Nat) (e : Ending) (w' : World) : Prop :=
  ∃ A c l B d k, e = .returned (.tuple #[.slice A l.length c, .slice B k.length d]) ∧ l.length ≤ c ∧ OwnS a w' A l ∧ Top l ∧ val l = N ∧ k.length ≤ d ∧ OwnS a w' B k ∧ Top k ∧ val k = M ∧ Below a.heap.size a w'

theorem val_two {l : List Nat} (h : l.length ≤ 2) : val l = gd l 0 + 4294967296 * gd l 1 := by
  match l, h with
  | [], _ => rfl
  | [x], _ => simp [val, gd]
  | [x, y], _ => simp [val, gd]

set_option maxRecDepth 100000 in
set_option maxHeartbeats 400000 in
theorem divide_small (a w : World) (A B : Option Addr) (n c m d : Nat) (l k : List Nat) (hn : l.length = n) (hm : k.length = m) (hn2 : n ≤ 2) (hm2 : m ≤ 2) (hl : WS w A l) (hk : WS w B k) (h0 : val k ≠ 0) (hw : Below a.heap.size a w) :
    Calls Tryd.prog 54 #[.slice A n c, .slice B m d] w (DRes a (val l / val k) (val l % val k)) := by
  subst hn hm
  have e1 := val_two hn2
  have e2 := val_two hm2
  have b1 := hl.lt 0
  have b2 := hl.lt 1
  have b3 := hk.lt 0
  have b4 := hk.lt 1
  have c1 : decide ((l.length : Int) ≤ 2) = true := by simp; omega
  have c2 : decide ((k.length : Int) ≤ 2) = true := by simp; omega
  obtain ⟨x, hx⟩ : ∃ x, x = val l := ⟨_, rfl⟩
  obtain ⟨y, hy⟩ : ∃ y, y = val k := ⟨_, rfl⟩
  have hxl : x < 18446744073709551616 := by omega
  have hyl : y < 18446744073709551616 := by omega
  have hy0 : 0 < y := by omega
  have hyb : ((y : Int) == 0) = false := beq_eq_false_iff_ne.2 (by omega)
  have s1 := single_any A l.length c l w rfl (by omega) hl
  have s2 := single_any B k.length d k w rfl (by omega) hk
  rw [← e1, ← hx] at s1
  rw [← e2, ← hy] at s2
  rw [← hx, ← hy]
  obtain ⟨q, hq⟩ : ∃ q, q = x / y := ⟨_, rfl⟩
  obtain ⟨r, hr⟩ : ∃ r, r = x % y := ⟨_, rfl⟩
  have hd1 : (x : Int) / (y : Int) = (q : Int) := by rw [hq]; simp
  have hd2 : (x : Int).tdiv (y : Int) = (q : Int) := by rw [Int.tdiv_eq_ediv_of_nonneg (by omega)]; exact hd1
  have hm1 : (x : Int) % (y : Int) = (r : Int) := by rw [hr]; simp
  have hmm2 : (x : Int).tmod (y : Int) = (r : Int) := by rw [Int.tmod_eq_emod_of_nonneg (by omega)]; exact hm1
  have hql : q < 18446744073709551616 := by rw [hq]; exact Nat.lt_of_le_of_lt (Nat.div_le_self _ _) hxl
  have hrl : r < 18446744073709551616 := by rw [hr]; exact Nat.lt_of_le_of_lt (Nat.mod_le _ _) hxl
  rw [← hq, ← hr]
  have S1 := Lib.hid s1
  have S2 := Lib.hid s2
  clear s1 s2 e1 e2 h0 hx hy hq hr
  have hwq : IntKind.u64.wrap (q : Int) = (q : Int) := IntWalk.u64_in _ ⟨by omega, by omega⟩
  go_enter Tryd.func54, Tryd.ntmps54
  go_wp2_with fail
  refine S1.out.mono ?_
  rintro e w1 ⟨rfl, rfl⟩
  go_wp2_with fail
  refine S2.out.mono ?_
  rintro e w1 ⟨rfl, rfl⟩
  go_wp2_with fail
  go_region_with (first
    | (go_at_call 51; ((with_reducible refine (fromSingle_any w _ q hql ?_).mono ?_); (first | exact b0 _ | exact bd (b0 _) _); rintro e w1 ⟨A1, c1, l1, rfl, hlc1, ho1, ht1, hv1, hb1⟩; have HV1 := Lib.hid hv1; clear hv1))
    | (go_at_call 51; ((with_reducible refine (fromSingle_any w1 _ r hrl ?_).mono ?_); (first | exact b0 _ | exact bd (b0 _) _); rintro e w2 ⟨A2, c2, l2, rfl, hlc2, ho2, ht2, hv2, hb12⟩; have hb2 := bt hb1 hb12; have HV2 := Lib.hid hv2; clear hv2)))
  all_goals
    clear hwq
    go_wp2_with fail
    go_ret2
    exact ⟨A1, c1, l1, A2, c2, l2, rfl, hlc1, (ho1.below hb12).mono hw.size, ht1, HV1.out, hlc2, ho2.mono (Nat.le_trans hw.size hb1.size), ht2, HV2.out, bt hw hb2⟩
end Go.Proofs.YtaaipcjbmdbndaaDoor
