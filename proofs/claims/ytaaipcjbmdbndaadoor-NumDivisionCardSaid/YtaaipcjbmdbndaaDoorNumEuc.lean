/- Euclid's algorithm: the turns, and the last steps. -/
import Derived.Test.YtaaipcjbmdbndaaDoorNumInt4
import Derived.Test.YtaaipcjbmdbndaaDoorNumDiv2
namespace Go.Proofs.YtaaipcjbmdbndaaDoor
open Go.RowKit

abbrev tv (p q u v : Nat) : Value := .agg #[.int .u64 (p : Int), .int .u64 (q : Int), .int .u64 (u : Int), .int .u64 (v : Int)]

set_option maxRecDepth 100000 in
set_option maxHeartbeats 400000 in
theorem noTurn_any (w : World) : Calls Tryd.prog 103 #[] w fun e w' => e = .returned (tv 1 0 0 1) ∧ Below w.heap.size w w' := by
  go_enter Tryd.func103, Tryd.ntmps103
  go_wp2
  go_returns
  exact ⟨rfl, ba (b0 _) _⟩

set_option maxRecDepth 100000 in
set_option maxHeartbeats 400000 in
theorem step_any (p q u v c : Nat) (w : World) (h1 : p < 18446744073709551616) (h2 : q < 18446744073709551616) (h3 : p + c * u < 18446744073709551616) (h4 : q + c * v < 18446744073709551616) :
    Calls Tryd.prog 104 #[tv p q u v, .int .u64 (c : Int)] w fun e w' => e = .returned (tv u v (p + c * u) (q + c * v)) ∧ Below w.heap.size w w' := by
  obtain ⟨x, hx⟩ : ∃ x, x = c * u := ⟨_, rfl⟩
  obtain ⟨y, hy⟩ : ∃ y, y = c * v := ⟨_, rfl⟩
  have ex : (c : Int) * (u : Int) = (x : Int) := by rw [hx]; simp
  have ey : (c : Int) * (v : Int) = (y : Int) := by rw [hy]; simp
  rw [← hx] at h3 ⊢
  rw [← hy] at h4 ⊢
  clear hx hy

  go_enter Tryd.func104, Tryd.ntmps104
  go_wp2
  go_returns
  exact ⟨by simp, ba (ba (b0 _) _) _⟩

set_option maxRecDepth 100000 in
set_option maxHeartbeats 400000 in
theorem spread_any (a w : World) (A B : Option Addr) (n c m d : Nat) (l k : List Nat) (p q : Nat) (hn : l.length = n) (hm : k.length = m) (hn2 : n ≤ 1000000) (hm2 : m ≤ 1000000) (hl : WS w A l) (hk : WS w B k) (hp : p < 18446744073709551616) (hq : q < 18446744073709551616) (hw : Below a.heap.size a w) :
    Calls Tryd.prog 108 #[.slice A n c, .slice B m d, .int .u64 (p : Int), .int .u64 (q : Int)] w (Res a (val l * p + val k * q)) := by
  subst hn hm
  go_enter Tryd.func108, Tryd.ntmps108
  go_wp2_with fail
  refine (fromSingle_any w _ p hp (b0 _)).mono ?_
  rintro e w1 ⟨A1, c1, l1, rfl, hc1, ho1, ht1, hv1, hb1⟩
  have hl1 : l1.length ≤ 2 := top_len ht1 (by rw [hv1]; exact hp)
  have H1 := Lib.hid hv1
  clear hv1
  go_wp2_with fail
  refine (product_two w _ A A1 l.length c l1.length c1 l l1 rfl rfl hn2 (by omega) (hl.below hb1) ho1.ws hb1).mono ?_
  rintro e w2 ⟨A2, c2, l2, rfl, hc2, ho2, ht2, hv2, hb2⟩
  have hl2 : l2.length ≤ l.length + 2 := top_len ht2 (by rw [hv2, BB_add]; exact Nat.mul_lt_mul_of_lt_of_lt (val_lt hl.1) (by rw [H1.out]; exact hp))
  have H2 := Lib.hid hv2
  clear hv2
  go_wp2_with fail
  refine (fromSingle_any w2 _ q hq (b0 _)).mono ?_
  rintro e w3 ⟨A3, c3, l3, rfl, hc3, ho3, ht3, hv3, hb3⟩
  have hl3 : l3.length ≤ 2 := top_len ht3 (by rw [hv3]; exact hq)
  have H3 := Lib.hid hv3
  clear hv3
  have hw3 := bt hb2 hb3
  go_wp2_with fail
  refine (product_two w3 _ B A3 k.length d l3.length c3 k l3 rfl rfl hm2 (by omega) (hk.below hw3) ho3.ws (b0 _)).mono ?_
  rintro e w4 ⟨A4, c4, l4, rfl, hc4, ho4, ht4, hv4, hb4⟩
  have hl4 : l4.length ≤ k.length + 2 := top_len ht4 (by rw [hv4, BB_add]; exact Nat.mul_lt_mul_of_lt_of_lt (val_lt hk.1) (by rw [H3.out]; exact hq))
  have H4 := Lib.hid hv4
  clear hv4
  have hw4 := bt hw3 hb4
  go_wp2_with fail
  refine (sum_any a _ A2 A4 l2.length c2 l4.length c4 l2 l4 rfl rfl (by omega) (by omega) (ho2.ws.below (bt hb3 hb4)) ho4.ws (bt hw hw4)).mono ?_
  rintro e w5 ⟨A5, c5, l5, rfl, hc5, ho5, ht5, hv5, hb5⟩
  have H5 := Lib.hid hv5
  clear hv5
  go_wp2_with fail
  go_ret
  exact ⟨A5, c5, l5, rfl, hc5, ho5, ht5, by rw [H5.out, H2.out, H4.out, H1.out, H3.out], hb5⟩
end Go.Proofs.YtaaipcjbmdbndaaDoor
