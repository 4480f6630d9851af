/- Euclid's algorithm, of numbers of at most two words. -/
import Derived.Test.YtaaipcjbmdbndaaDoorNumFin
import Derived.Test.YtaaipcjbmdbndaaDoorNumInt4
namespace Go.Proofs.YtaaipcjbmdbndaaDoor
open Go.RowKit

/-- What 'run' ends in: the numbers of the euclid at s, which began with a0, b0, x0, y0. -/
def RunP (a w : World) (s a0 b0 : Nat) (lx ly : List Nat) (o : Bool) (e : Ending) (w' : World) : Prop :=
  ∃ (g p q u v : Nat) (odd : Bool) (A' B' X' Y' : Option Addr) (ca' cb' cx' cy' : Nat) (la' lx' ly' : List Nat), e = .returned (.tuple #[]) ∧ TR a0 b0 g 0 p q u v odd ∧ la'.length ≤ ca' ∧ OwnS a w' A' la' ∧ Top la' ∧ val la' = g ∧
    Cells w' s 90 #[.slice A' la'.length ca', .slice B' 0 cb', .slice X' lx'.length cx', .slice Y' ly'.length cy', .bool (o != odd)] ∧
    (ly = [] → lx' = lx ∧ ly' = ly) ∧
    (ly ≠ [] → lx'.length ≤ cx' ∧ OwnS a w' X' lx' ∧ Top lx' ∧ val lx' = val lx * p + val ly * q ∧ ly'.length ≤ cy' ∧ OwnS a w' Y' ly' ∧ Top ly' ∧ val ly' = val lx * u + val ly * v) ∧ Only s w w'

theorem FinP.run {a w w' : World} {s a0 b0 : Nat} {X Y : Option Addr} {cx cy : Nat} {lx ly : List Nat} {o : Bool} {e : Ending} (haw : a.heap.size ≤ w.heap.size) (h : FinP w s a0 b0 X Y cx cy lx ly o e w') : RunP a w s a0 b0 lx ly o e w' := by
  obtain ⟨g, p, q, u, v, odd, A', X', Y', ca', cx', cy', la', lx', ly', h1, h2, h3, h4, h5, h6, h7, h8, h9, h10⟩ := h
  refine ⟨g, p, q, u, v, odd, A', none, X', Y', ca', 0, cx', cy', la', lx', ly', h1, h2, h3, h4.mono haw, h5, h6, h7, fun h => ⟨(h8 h).1, (h8 h).2.1⟩, fun h => ?_, h10⟩
  obtain ⟨k1, k2, k3, k4, k5, k6, k7, k8⟩ := h9 h
  exact ⟨k1, k2.mono haw, k3, k4, k5, k6.mono haw, k7, k8⟩

set_option maxRecDepth 100000 in
set_option maxHeartbeats 1000000 in
theorem run_small (a w : World) (s : Nat) (A B X Y : Option Addr) (ca cb cx cy : Nat) (la lb lx ly : List Nat) (o : Bool) (ha : la.length ≤ 2) (hb : lb.length ≤ 2) (hx : lx.length ≤ 900000) (hy : ly.length ≤ 900000) (hlt : val lb ≤ val la) (h0 : lb ≠ [] → 0 < val la)
    (ta : Top la) (tx : Top lx) (ty : Top ly) (hca : la.length ≤ ca) (hcx : lx.length ≤ cx) (hcy : ly.length ≤ cy)
    (hs : Cells w s 90 #[.slice A la.length ca, .slice B lb.length cb, .slice X lx.length cx, .slice Y ly.length cy, .bool o])
    (oa : OwnS a w A la) (wb : WS w B lb) (ox : OwnS a w X lx) (oy : OwnS a w Y ly) (haw : a.heap.size ≤ w.heap.size) :
    Calls Tryd.prog 80 #[.pointer (some ⟨s, 0, none⟩)] w (RunP a w s (val la) (val lb) lx ly o) := by
  have q0 := hs.at_ 0
  have q1 := hs.at_ 1
  simp at q0 q1
  have hla : ¬ (2 : Int) < (la.length : Int) := by omega
  have hlb : ¬ (2 : Int) < (lb.length : Int) := by omega
  by_cases hlb0 : lb = []
  · subst hlb0
    go_enter Tryd.func80, Tryd.ntmps80
    go_wp2_with fail
    go_loopw [] (fun wr => wr = w) (fun _ => 0)
    case atStart => rfl
    case round =>
      obtain rfl := hrel
      go_wp2_with fail
      go_end0
      refine ⟨val la, 1, 0, 0, 1, false, A, B, X, Y, ca, cb, cx, cy, la, lx, ly, rfl, TR.start _ _, hca, oa, ta, rfl, ?_, fun _ => ⟨rfl, rfl⟩, fun _ => ⟨hcx, ox, tx, by simp, hcy, oy, ty, by simp⟩, only_refl _ _⟩
      simpa using hs
  · have hlp : (0 : Int) < (lb.length : Int) := by have := List.length_pos_iff.2 hlb0; omega
    go_enter Tryd.func80, Tryd.ntmps80
    go_wp2_with fail
    go_loopw [] (fun wr => wr = w) (fun _ => 0)
    case atStart => rfl
    case round =>
      rw [hrel]
      go_wp2_with fail
      refine (finish_any w s A B X Y ca cb cx cy la lb lx ly o ha hb hx hy hlt (h0 hlb0) hs oa.ws wb ox.ws oy.ws).mono ?_
      intro e w' h
      have h' := h.run haw
      have he : e = .returned (.tuple #[]) := by obtain ⟨_, _, _, _, _, _, _, _, _, _, _, _, _, _, _, h1, _⟩ := h; exact h1
      subst he
      go_wp2_with fail
      go_end0
      exact h'

/-- The cells of a euclid that is laid new. -/
theorem euc_new (W : World) (vs : Array Value) : Cells (W.alloc (.cells vs 90)) W.heap.size 90 vs := Cells.new _ _ _
theorem own_of_blk {a w : World} {g : Nat} {l : List Nat} (hg : a.heap.size ≤ g) (hb : Blk w g l) : OwnS a w (some ⟨g, 0, none⟩) l := fun _ => ⟨g, l, rfl, hg, hb, List.take_length, Nat.le_refl _⟩

set_option maxRecDepth 100000 in
set_option maxHeartbeats 1000000 in
theorem divisor_le (w : World) (A B : Option Addr) (n c m d : Nat) (l k : List Nat) (hn : l.length = n) (hm : k.length = m) (hn2 : n ≤ 2) (hm2 : m ≤ 2) (tl : Top l) (tk : Top k) (hl : WS w A l) (hk : WS w B k) (hle : val k ≤ val l) :
    Calls Tryd.prog 58 #[.slice A n c, .slice B m d] w (Res w (Nat.gcd (val l) (val k))) := by
  subst hn hm
  have HC := Lib.hid (compare_any A B l.length c k.length d l k w rfl rfl (by omega) (by omega) tl tk hl hk)
  have hcmp : ((cmpN (val l) (val k) : Int) < 0) = False := by unfold cmpN; split <;> simp <;> omega
  go_enter Tryd.func58, Tryd.ntmps58
  go_wp2_with fail
  refine HC.out.mono ?_
  rintro e w1 ⟨rfl, hb1⟩
  go_wp2_with fail
  refine (own_any w1 w1 A l.length c l rfl (by omega) (hl.below hb1) (b0 _)).mono ?_
  rintro e w2 ⟨g1, rfl, hg1, hk1, hb2⟩
  go_wp2_with fail
  refine (own_any w2 w2 B k.length d k rfl (by omega) ((hk.below hb1).below hb2) (b0 _)).mono ?_
  rintro e w3 ⟨g2, rfl, hg2, hk2, hb3⟩
  go_wp2_with fail
  have hw3 : Below w.heap.size w w3 := bt (bt hb1 hb2) hb3
  have hk1' := (hk1.below hb3).below (ba (b0 w3) (.cells #[.slice (some ⟨g1, 0, none⟩) l.length l.length, .slice (some ⟨g2, 0, none⟩) k.length k.length, .slice none 0 0, .slice none 0 0, .bool false] 90))
  have hk2' := hk2.below (ba (b0 w3) (.cells #[.slice (some ⟨g1, 0, none⟩) l.length l.length, .slice (some ⟨g2, 0, none⟩) k.length k.length, .slice none 0 0, .slice none 0 0, .bool false] 90))
  have hs1 := hb1.size
  have hs2 := hb2.size
  refine (run_small w _ w3.heap.size _ _ none none l.length k.length 0 0 l k [] [] false hn2 hm2 (by simp) (by simp) hle (fun h => Nat.lt_of_lt_of_le (val_pos tk (List.length_pos_iff.2 h)) hle) tl top_nil top_nil (Nat.le_refl _) (Nat.le_refl _) (Nat.le_refl _) (euc_new _ _) (own_of_blk (by omega) hk1') (own_of_blk (a := w) (by omega) hk2').ws (fun h => absurd rfl h) (fun h => absurd rfl h) (ba hw3 _).size).mono ?_
  rintro e w5 ⟨g, p, q, u, v, odd, A', B', X', Y', ca', cb', cx', cy', la', lx', ly', rfl, hTR, hca', oa', ta', va', hs5, _, _, hO⟩
  have hg := hTR.gcd
  have z0 := hs5.at_ 0
  simp at z0
  go_wp2_with fail
  go_returns
  exact ⟨A', ca', la', rfl, hca', oa', ta', by rw [va', hg], bo (ba hw3 _) hO hw3.size⟩
set_option maxRecDepth 100000 in
set_option maxHeartbeats 1000000 in
theorem divisor_lt (w : World) (A B : Option Addr) (n c m d : Nat) (l k : List Nat) (hn : l.length = n) (hm : k.length = m) (hn2 : n ≤ 2) (hm2 : m ≤ 2) (tl : Top l) (tk : Top k) (hl : WS w A l) (hk : WS w B k) (hle : val l < val k) :
    Calls Tryd.prog 58 #[.slice A n c, .slice B m d] w (Res w (Nat.gcd (val l) (val k))) := by
  subst hn hm
  have HC := Lib.hid (compare_any A B l.length c k.length d l k w rfl rfl (by omega) (by omega) tl tk hl hk)
  have hcmp : ((cmpN (val l) (val k) : Int) < 0) = True := by unfold cmpN; split <;> simp <;> omega
  go_enter Tryd.func58, Tryd.ntmps58
  go_wp2_with fail
  refine HC.out.mono ?_
  rintro e w1 ⟨rfl, hb1⟩
  go_wp2_with fail
  refine (own_any w1 w1 B k.length d k rfl (by omega) (hk.below hb1) (b0 _)).mono ?_
  rintro e w2 ⟨g1, rfl, hg1, hk1, hb2⟩
  go_wp2_with fail
  refine (own_any w2 w2 A l.length c l rfl (by omega) ((hl.below hb1).below hb2) (b0 _)).mono ?_
  rintro e w3 ⟨g2, rfl, hg2, hk2, hb3⟩
  go_wp2_with fail
  have hw3 : Below w.heap.size w w3 := bt (bt hb1 hb2) hb3
  have hk1' := (hk1.below hb3).below (ba (b0 w3) (.cells #[.slice (some ⟨g1, 0, none⟩) k.length k.length, .slice (some ⟨g2, 0, none⟩) l.length l.length, .slice none 0 0, .slice none 0 0, .bool false] 90))
  have hk2' := hk2.below (ba (b0 w3) (.cells #[.slice (some ⟨g1, 0, none⟩) k.length k.length, .slice (some ⟨g2, 0, none⟩) l.length l.length, .slice none 0 0, .slice none 0 0, .bool false] 90))
  have hs1 := hb1.size
  have hs2 := hb2.size
  refine (run_small w _ w3.heap.size _ _ none none k.length l.length 0 0 k l [] [] false hm2 hn2 (by simp) (by simp) (Nat.le_of_lt hle) (fun h => Nat.lt_trans (val_pos tl (List.length_pos_iff.2 h)) hle) tk top_nil top_nil (Nat.le_refl _) (Nat.le_refl _) (Nat.le_refl _) (euc_new _ _) (own_of_blk (by omega) hk1') (own_of_blk (a := w) (by omega) hk2').ws (fun h => absurd rfl h) (fun h => absurd rfl h) (ba hw3 _).size).mono ?_
  rintro e w5 ⟨g, p, q, u, v, odd, A', B', X', Y', ca', cb', cx', cy', la', lx', ly', rfl, hTR, hca', oa', ta', va', hs5, _, _, hO⟩
  have hg := hTR.gcd
  have z0 := hs5.at_ 0
  simp at z0
  go_wp2_with fail
  go_returns
  exact ⟨A', ca', la', rfl, hca', oa', ta', by rw [va', ← hg, Nat.gcd_comm], bo (ba hw3 _) hO hw3.size⟩
theorem divisor_small (w : World) (A B : Option Addr) (n c m d : Nat) (l k : List Nat) (hn : l.length = n) (hm : k.length = m) (hn2 : n ≤ 2) (hm2 : m ≤ 2) (tl : Top l) (tk : Top k) (hl : WS w A l) (hk : WS w B k) :
    Calls Tryd.prog 58 #[.slice A n c, .slice B m d] w (Res w (Nat.gcd (val l) (val k))) := by
  rcases Nat.lt_or_ge (val l) (val k) with h | h
  · exact divisor_lt w A B n c m d l k hn hm hn2 hm2 tl tk hl hk h
  · exact divisor_le w A B n c m d l k hn hm hn2 hm2 tl tk hl hk h

/-- The least factor u of the integer whose absolute value is x that gives the greatest common divisor of it and k, up to multiples of k. -/
def InvU (neg : Bool) (x k U : Nat) : Prop := U * Nat.gcd x k < k ∧ ∃ z : Int, (U : Int) * (if neg then -(x : Int) else (x : Int)) = (Nat.gcd x k : Nat) + z * (k : Int)
theorem inv_of_tr {x k g p q u v : Nat} {odd neg : Bool} (hk : 0 < k) (h : TR k (x % k) g 0 p q u v odd) : g = Nat.gcd x k ∧ InvU neg x k (if 0 < q ∧ odd = neg then v - q else q) := by
  have hg : g = Nat.gcd x k := by rw [← h.gcd, Nat.gcd_comm k, ← Nat.gcd_rec, Nat.gcd_comm]
  refine ⟨hg, ?_⟩
  obtain ⟨h1, h2, h3, h4, h5, h6, h7⟩ := h
  have hm := Nat.mod_lt x hk
  have hqv : q < v := by rcases h7 hm with h | h <;> omega
  have hx := Nat.div_add_mod x k
  have hg0 : 0 < g := by
    rcases Nat.eq_zero_or_pos g with h | h
    · rw [h] at h1; simp at h1; omega
    · exact h
  unfold InvU
  rw [← hg]
  have hkv : k = v * g := by omega
  have hlt : ∀ U, U < v → U * g < k := fun U hU => by rw [hkv]; exact Nat.mul_lt_mul_of_pos_right hU hg0
  obtain ⟨t, ht⟩ : ∃ t, t = x / k := ⟨_, rfl⟩
  obtain ⟨r, hr⟩ : ∃ r, r = x % k := ⟨_, rfl⟩
  rw [← hr] at h2 h3 hx
  rw [← ht] at hx
  have hxi : (x : Int) = (k : Int) * t + r := by rw [← hx]; simp
  have hvr : (v : Int) * r = (u : Int) * k := by
    cases odd
    · simp only [Bool.false_eq_true, if_false] at h3; have := h3.2; rw [Nat.zero_add] at this; rw [← Int.natCast_mul, ← Int.natCast_mul, this]
    · simp only [if_true] at h3; have := h3.2; rw [Nat.zero_add] at this; rw [← Int.natCast_mul, ← Int.natCast_mul, this]
  have hqr : (q : Int) * r = (if odd then (g : Int) + p * k else (p : Int) * k - g) := by
    cases odd
    · simp only [Bool.false_eq_true, if_false] at h3 ⊢; have := h3.1; have e : ((g + q * r : Nat) : Int) = ((p * k : Nat) : Int) := by rw [this]
      simp at e; omega
    · simp only [if_true] at h3 ⊢; have := h3.1; have e : ((g + p * k : Nat) : Int) = ((q * r : Nat) : Int) := by rw [this]
      simp at e; omega
  have hqx : (q : Int) * x = (q : Int) * t * k + q * r := by rw [hxi, Int.mul_add, Int.mul_comm (k : Int) t, Int.mul_assoc]
  have hvx : (v : Int) * x = ((v : Int) * t + u) * k := by rw [hxi, Int.mul_add, Int.mul_comm (k : Int) t, hvr, Int.add_mul, Int.mul_assoc]
  by_cases hq : 0 < q
  · cases odd <;> cases neg
    all_goals simp only [Bool.false_eq_true, if_false, if_true, and_true, and_false, hq, Bool.true_eq_false, Bool.not_eq_true] at hqr ⊢
    · refine ⟨hlt _ (by omega), (v * t + u) - (q * t + p), ?_⟩
      rw [Int.natCast_sub (by omega), Int.sub_mul, hvx, hqx, hqr, Int.sub_mul]; simp only [Int.add_mul]; omega
    · refine ⟨hlt _ (by omega), -(q * t + p), ?_⟩
      rw [Int.mul_neg, hqx, hqr, Int.neg_mul, Int.add_mul]; omega
    · refine ⟨hlt _ (by omega), q * t + p, ?_⟩
      rw [hqx, hqr, Int.add_mul]; omega
    · refine ⟨hlt _ (by omega), (q * t + p) - (v * t + u), ?_⟩
      rw [Int.mul_neg, Int.natCast_sub (by omega), Int.sub_mul, hvx, hqx, hqr, Int.sub_mul]; simp only [Int.add_mul]; omega
  · have hq0 : q = 0 := by omega
    subst hq0
    simp only [Nat.lt_irrefl, false_and, if_false]
    have hgk : (g : Int) = if odd then -((p : Int) * k) else (p : Int) * k := by cases odd <;> simp at hqr ⊢ <;> omega
    refine ⟨hlt _ (by omega), if odd then (p : Int) else -(p : Int), ?_⟩
    rw [hgk]
    cases odd <;> simp [Int.neg_mul] <;> omega
end Go.Proofs.YtaaipcjbmdbndaaDoor
