/- Div by values. -/
import Derived.Test.YtgljdfblgpdaaaaGreatDoorNumIv
import Derived.Test.YtgljdfblgpdaaaaGreatDoorNumDivA
import Derived.Test.YtgljdfblgpdaaaaGreatDoorNumGcdA
set_option linter.unusedSimpArgs false
set_option linter.unusedVariables false
/-! Div by values. -/
namespace Go.Proofs.YtgljdfblgpdaaaaGreatDoor
open Go.RowKit

theorem zI_zero {n : Bool} {l : List Nat} (hB : isB n l = true) : zI n l = 0 ↔ l.length = 0 := by
  have h := val_eq_zero (isB_top hB)
  rw [← h]
  unfold zI
  cases n <;> simp
theorem lt_ediv {i : Nat} {x y : Int} (h : Lt i x) : Lt i (x / y) := Nat.lt_of_le_of_lt (Int.natAbs_ediv_le_natAbs x y) h
theorem lt_emod {i : Nat} {x y : Int} (hy : y ≠ 0) (h : Lt i y) : Lt i (x % y) := by
  have h1 := Int.emod_nonneg x hy
  have h2 := Int.emod_lt x hy
  unfold Lt at *
  omega
/-- Where Div's results lie. -/
def DivAt (w : World) (q r er : Int) (s t e : Value) (W : World) : Prop :=
  ∃ p1 p2 n A c l n' A' c' l', s = .pointer (some ⟨p1, 0, none⟩) ∧ t = .pointer (some ⟨p2, 0, none⟩) ∧ e = .int .i64 er ∧ IntAt W p1 n A c l q ∧ IntAt W p2 n' A' c' l' r ∧ Below w.heap.size w W
/-- A call of Div returned q, r and no error. -/
def RDIV (w : World) (q r : Int) (e : Ending) (w' : World) : Prop :=
  ∃ n1 A1 c1 l1 n2 A2 c2 l2, e = .returned (.tuple #[.agg #[.bool n1, .slice A1 l1.length c1], .agg #[.bool n2, .slice A2 l2.length c2], .int .i64 0]) ∧ IV w' n1 A1 c1 l1 q ∧ IV w' n2 A2 c2 l2 r ∧ Below w.heap.size w w'
theorem IP.iv {a w' : World} {n : Bool} {A : Option Addr} {c : Nat} {l : List Nat} {z : Int} (h : IP a w' n A c l z) (hlt : Lt 300 z) : IV w' n A c l z := .of h.1 h.2.1.ws h.2.2.1 h.2.2.2 hlt
theorem Div_ow {w : World} {n m : Bool} {A B : Option Addr} {c d : Nat} {l k : List Nat} {x y q r : Int} (h : IV w n A c l x) (h2 : IV w m B d k y) (hy : y ≠ 0) (hq : x / y = q) (hr : x % y = r) :
    Calls Tryz.prog 13 #[.agg #[.bool n, .slice A l.length c], .agg #[.bool m, .slice B k.length d]] w (QRes w q r 0) := by
  have e1 := h.len
  have e2 := h2.len
  have hk0 : 0 < k.length := Nat.pos_of_ne_zero (fun e => hy (by rw [← h2.val]; exact (zI_zero h2.can).2 e))
  have hd := Div_any w w n m A B c d l k (by omega) (by omega) h.ws h2.ws h.can h2.can hk0 (b0 _)
  rwa [h.val, h2.val, hq, hr] at hd
theorem Div_iv {w : World} {n m : Bool} {A B : Option Addr} {c d : Nat} {l k : List Nat} {x y q r : Int} (h : IV w n A c l x) (h2 : IV w m B d k y) (hy : y ≠ 0) (hq : x / y = q) (hr : x % y = r) (h1 : Lt 300 q) (h3 : Lt 300 r) :
    Calls Tryz.prog 13 #[.agg #[.bool n, .slice A l.length c], .agg #[.bool m, .slice B k.length d]] w (RDIV w q r) := by
  have e1 := h.len
  have e2 := h2.len
  have hk0 : 0 < k.length := Nat.pos_of_ne_zero (fun e => hy (by rw [← h2.val]; exact (zI_zero h2.can).2 e))
  refine (Div_any w w n m A B c d l k (by omega) (by omega) h.ws h2.ws h.can h2.can hk0 (b0 _)).mono ?_
  rintro e w' ⟨n1, A1, c1, l1, n2, A2, c2, l2, rfl, i1, i2, hb⟩
  rw [h.val, h2.val, hq] at i1
  rw [h.val, h2.val, hr] at i2
  exact ⟨n1, A1, c1, l1, n2, A2, c2, l2, rfl, i1.iv h1, i2.iv h3, hb⟩
end Go.Proofs.YtgljdfblgpdaaaaGreatDoor

/-! Bezout by 0; Gcd and Bezout by values. -/
namespace Go.Proofs.YtgljdfblgpdaaaaGreatDoor
open Go.RowKit

set_option maxRecDepth 100000 in
set_option maxHeartbeats 1000000 in
theorem Bezout_zero (w : World) (na nb : Bool) (A B : Option Addr) (c d : Nat) (l k : List Nat) (hn2 : l.length ≤ 1000000) (hl : WS w A l) (hk : WS w B k) (hp : isB na l = true) (hq : isB nb k = true) (hk0 : k.length = 0) :
    Calls Tryz.prog 15 #[.agg #[.bool na, .slice A l.length c], .agg #[.bool nb, .slice B k.length d]] w (BRes w ((val l : Nat) : Int) (sgn true na l) 0) := by
  have HP := Lib.hid hp
  have HQ := Lib.hid hq
  have hkz : ((k.length : Int) == 0) = true := by rw [hk0]; rfl
  have hkm : k.length ≤ 1000000 := by omega
  obtain ⟨sv, hsv⟩ : ∃ x, x = sgn true na l := ⟨_, rfl⟩
  have hsb : -1 ≤ sv ∧ sv ≤ 1 := by rw [hsv]; unfold sgn; split <;> (try split) <;> omega
  have HSV := Lib.hid hsv.symm
  clear hp hq hk0 hsv
  obtain ⟨W1, hW1, hw1, x0, x1, x2, x3, x4⟩ := boxes5 w na nb A B l.length c k.length d
  go_enter Tryz.func15, Tryz.ntmps15
  go_wp2_with fail
  rw [← hW1]
  clear hW1
  refine (both_any na nb A B _ c _ d l k true true _ rfl rfl (by omega) (by omega) (hl.below hw1) (hk.below hw1) HP.out HQ.out).mono ?_
  rintro e w1 ⟨rfl, hb⟩
  have hw1' := bt hw1 hb
  have y0 := x0.below hb
  have y1 := x1.below hb
  have y2 := x2.below hb
  have y3 := x3.below hb
  have y4 := x4.below hb
  have z0 := y1.cell0
  have z1 := y1.cell1
  clear x0 x1 x2 x3 x4
  have c0 := y0.cell0
  have c1 := y0.cell1
  go_upto_region 4 with fail
  refine wp_region_held_drew (S := fun W => W.cell? ⟨w.heap.size, 0, none⟩ = some (.bool na) ∧ W.cell? ⟨w.heap.size, 1, none⟩ = some (.slice A l.length c)) (by kernel_rfl) ⟨c0, c1⟩ (fun hHeld => ?_)
  obtain ⟨Wd, hWd⟩ : ∃ W, W = w1.drew := ⟨_, rfl⟩
  rw [← hWd] at hHeld ⊢
  have d0 : Box2 Wd w.heap.size (.bool na) (.slice A l.length c) := by rw [hWd]; exact y0
  have d2 : Box2 Wd (w.heap.size + 1 + 1) (.bool false) (.slice none 0 0) := by rw [hWd]; exact y2
  have d3 : Box2 Wd (w.heap.size + 1 + 1 + 1) (.bool false) (.slice none 0 0) := by rw [hWd]; exact y3
  have d4 : Box2 Wd (w.heap.size + 1 + 1 + 1 + 1) (.bool false) (.slice none 0 0) := by rw [hWd]; exact y4
  have hwd : Below w.heap.size w Wd := by rw [hWd]; exact bw hw1'
  have hld : WS Wd A l := hl.below hwd
  have hs2 := d4.lt
  clear hWd c0 c1 y0 y1 y2 y3 y4
  refine wpAnyH_take (i := 0) (v := ?_) rfl (by kernel_rfl) (by kernel_rfl) (by kernel_rfl) (fun _ _ _ h => h) (Or.inl ⟨by rfl, ?_⟩) (by assumption) ?_
  rotate_left
  · (intro w hSw; (try dsimp only at hSw); go_simp; all_goals with_reducible rfl)
  try simp only [Act.put, List.setIfInBounds_toArray, List.set_cons_zero, List.set_cons_succ]
  refine wpAnyH_take (i := 2) (v := ?_) rfl (by kernel_rfl) (by kernel_rfl) (by kernel_rfl) (fun _ _ _ h => h) (Or.inl ⟨by rfl, ?_⟩) (by assumption) ?_
  rotate_left
  · (intro w hSw; (try dsimp only at hSw); go_simp; all_goals with_reducible rfl)
  try simp only [Act.put, List.setIfInBounds_toArray, List.set_cons_zero, List.set_cons_succ]
  refine wpAnyH_take (i := 5) (v := ?_) rfl (by kernel_rfl) (by kernel_rfl) (by kernel_rfl) (fun _ _ _ h => h) (Or.inl ⟨by rfl, ?_⟩) (by assumption) ?_
  rotate_left
  · (intro w hSw; (try dsimp only at hSw); go_simp; all_goals with_reducible rfl)
  try simp only [Act.put, List.setIfInBounds_toArray, List.set_cons_zero, List.set_cons_succ]
  refine wpAnyH_ready (rs := [1]) (by kernel_rfl) (by simp) ?_
  refine AllReadyH.cons rfl (fun K hK => ?_) AllReadyH.nil
  go_simp
  go_at_call 83
  refine (Abs_any Wd _ na A l.length c l true rfl (by omega) hld HP.out (b0 _)).mono ?_
  rintro e w6 ⟨n6, A6, c6, l6, rfl, hc6, ho6, hB6, hz6, hb6⟩
  have I6 := Lib.hid (show IP Wd w6 n6 A6 c6 l6 ((val l : Nat) : Int) from ⟨hc6, ho6, hB6, hz6⟩)
  clear hc6 ho6 hB6 hz6
  refine hK.out _ _ ⟨(d0.below hb6).cell0, (d0.below hb6).cell1⟩ (fun hHeld => ?_)
  clear hK K
  try simp only [Act.put, List.setIfInBounds_toArray, List.set_cons_zero, List.set_cons_succ]
  refine wpAnyH_ready (rs := [3]) (by kernel_rfl) (by simp) ?_
  refine AllReadyH.cons rfl (fun K hK => ?_) AllReadyH.nil
  go_simp
  go_at_call 79
  have hsg := Sign_any na A l.length c l true w6 rfl (by omega) (hld.below hb6) HP.out
  rw [HSV.out] at hsg
  refine hsg.mono ?_
  clear hsg
  rintro e w7 ⟨rfl, hb7⟩
  refine hK.out _ _ ⟨((d0.below hb6).below hb7).cell0, ((d0.below hb6).below hb7).cell1⟩ (fun hHeld => ?_)
  clear hK K
  try simp only [Act.put, List.setIfInBounds_toArray, List.set_cons_zero, List.set_cons_succ]
  refine wpAnyH_ready (rs := [4]) (by kernel_rfl) (by simp) ?_
  refine AllReadyH.cons rfl (fun K hK => ?_) AllReadyH.nil
  go_simp
  go_at_call 77
  refine (Of_any w7 w7 sv (by omega) (by omega) (b0 _)).mono ?_
  rintro e w8 ⟨n8, A8, c8, l8, rfl, hc8, ho8, hB8, hz8, hb8⟩
  have I8 := Lib.hid (show IP w7 w8 n8 A8 c8 l8 sv from ⟨hc8, ho8, hB8, hz8⟩)
  clear hc8 ho8 hB8 hz8
  have hb67 := bt hb6 hb7
  have hb68 := bt hb67 hb8
  have q0 := d0.below hb68
  have q2 := d2.below hb68
  have q3 := d3.below hb68
  have q4 := d4.below hb68
  have Jw8 : (IP Wd w8 n6 A6 c6 l6 ((val l : Nat) : Int) ∧ IP Wd w8 n8 A8 c8 l8 sv) ∧ Below w.heap.size w w8 := ⟨⟨I6.out.below (bt hb7 hb8), I8.out.mono hb67.size⟩, bt hwd hb68⟩
  clear d0 d2 d3 d4 I6 I8
  refine hK.out _ _ ⟨q0.cell0, q0.cell1⟩ (fun hHeld => ?_)
  clear hK K
  try simp only [Act.put, List.setIfInBounds_toArray, List.set_cons_zero, List.set_cons_succ]
  have x0 := q2.cell0
  have x1 := q2.cell1
  have g0 := q2.free 0
  have g1 := q2.free 1
  refine wpAnyH_ready (rs := [6]) (by kernel_rfl) (by simp) ?_
  refine AllReadyH.cons rfl (fun K hK => ?_) AllReadyH.nil
  go_simp
  obtain ⟨Wx, hWx⟩ : ∃ W, W = (w8.setCell ⟨w.heap.size + 1 + 1, 0, none⟩ (Value.bool n6)).setCell ⟨w.heap.size + 1 + 1, 1, none⟩ (Value.slice A6 l6.length c6) := ⟨_, rfl⟩
  rw [← hWx]
  have e0 : Box2 Wx (w.heap.size) (.bool na) (.slice A l.length c) := by rw [hWx]; exact box2_far q0 (by omega) _ _
  have e2 : Box2 Wx (w.heap.size + 1 + 1) (Value.bool n6) (Value.slice A6 l6.length c6) := by rw [hWx]; exact (q2.set0 _).set1 _
  have e3 : Box2 Wx (w.heap.size + 1 + 1 + 1) (.bool false) (.slice none 0 0) := by rw [hWx]; exact box2_far q3 (by omega) _ _
  have e4 : Box2 Wx (w.heap.size + 1 + 1 + 1 + 1) (.bool false) (.slice none 0 0) := by rw [hWx]; exact box2_far q4 (by omega) _ _
  have JWx : (IP Wd Wx n6 A6 c6 l6 ((val l : Nat) : Int) ∧ IP Wd Wx n8 A8 c8 l8 sv) ∧ Below w.heap.size w Wx := by rw [hWx]; exact ⟨⟨Jw8.1.1.two (by omega) _ _, Jw8.1.2.two (by omega) _ _⟩, b2 Jw8.2 (by omega) _ _⟩
  refine hK.out _ _ ⟨e0.cell0, e0.cell1⟩ (fun hHeld => ?_)
  clear hK K hWx x0 x1 g0 g1 q0 q2 q3 q4
  have q0 := e0
  clear e0
  have q2 := e2
  clear e2
  have q3 := e3
  clear e3
  have q4 := e4
  clear e4
  try simp only [Act.put, List.setIfInBounds_toArray, List.set_cons_zero, List.set_cons_succ]
  have x0 := q3.cell0
  have x1 := q3.cell1
  have g0 := q3.free 0
  have g1 := q3.free 1
  refine wpAnyH_ready (rs := [7]) (by kernel_rfl) (by simp) ?_
  refine AllReadyH.cons rfl (fun K hK => ?_) AllReadyH.nil
  go_simp
  obtain ⟨Wy, hWy⟩ : ∃ W, W = (Wx.setCell ⟨w.heap.size + 1 + 1 + 1, 0, none⟩ (Value.bool n8)).setCell ⟨w.heap.size + 1 + 1 + 1, 1, none⟩ (Value.slice A8 l8.length c8) := ⟨_, rfl⟩
  rw [← hWy]
  have e0 : Box2 Wy (w.heap.size) (.bool na) (.slice A l.length c) := by rw [hWy]; exact box2_far q0 (by omega) _ _
  have e2 : Box2 Wy (w.heap.size + 1 + 1) (Value.bool n6) (Value.slice A6 l6.length c6) := by rw [hWy]; exact box2_far q2 (by omega) _ _
  have e3 : Box2 Wy (w.heap.size + 1 + 1 + 1) (Value.bool n8) (Value.slice A8 l8.length c8) := by rw [hWy]; exact (q3.set0 _).set1 _
  have e4 : Box2 Wy (w.heap.size + 1 + 1 + 1 + 1) (.bool false) (.slice none 0 0) := by rw [hWy]; exact box2_far q4 (by omega) _ _
  have JWy : (IP Wd Wy n6 A6 c6 l6 ((val l : Nat) : Int) ∧ IP Wd Wy n8 A8 c8 l8 sv) ∧ Below w.heap.size w Wy := by rw [hWy]; exact ⟨⟨JWx.1.1.two (by omega) _ _, JWx.1.2.two (by omega) _ _⟩, b2 JWx.2 (by omega) _ _⟩
  refine hK.out _ _ ⟨e0.cell0, e0.cell1⟩ (fun hHeld => ?_)
  clear hK K hWy x0 x1 g0 g1 q0 q2 q3 q4
  have q0 := e0
  clear e0
  have q2 := e2
  clear e2
  have q3 := e3
  clear e3
  have q4 := e4
  clear e4
  try simp only [Act.put, List.setIfInBounds_toArray, List.set_cons_zero, List.set_cons_succ]
  have x0 := q4.cell0
  have x1 := q4.cell1
  have g0 := q4.free 0
  have g1 := q4.free 1
  refine wpAnyH_ready (rs := [8]) (by kernel_rfl) (by simp) ?_
  refine AllReadyH.cons rfl (fun K hK => ?_) AllReadyH.nil
  go_simp
  obtain ⟨Wz, hWz⟩ : ∃ W, W = (Wy.setCell ⟨w.heap.size + 1 + 1 + 1 + 1, 0, none⟩ (Value.bool false)).setCell ⟨w.heap.size + 1 + 1 + 1 + 1, 1, none⟩ (Value.slice none 0 0) := ⟨_, rfl⟩
  rw [← hWz]
  have e0 : Box2 Wz (w.heap.size) (.bool na) (.slice A l.length c) := by rw [hWz]; exact box2_far q0 (by omega) _ _
  have e2 : Box2 Wz (w.heap.size + 1 + 1) (Value.bool n6) (Value.slice A6 l6.length c6) := by rw [hWz]; exact box2_far q2 (by omega) _ _
  have e3 : Box2 Wz (w.heap.size + 1 + 1 + 1) (Value.bool n8) (Value.slice A8 l8.length c8) := by rw [hWz]; exact box2_far q3 (by omega) _ _
  have e4 : Box2 Wz (w.heap.size + 1 + 1 + 1 + 1) (Value.bool false) (Value.slice none 0 0) := by rw [hWz]; exact (q4.set0 _).set1 _
  have JWz : (IP Wd Wz n6 A6 c6 l6 ((val l : Nat) : Int) ∧ IP Wd Wz n8 A8 c8 l8 sv) ∧ Below w.heap.size w Wz := by rw [hWz]; exact ⟨⟨JWy.1.1.two (by omega) _ _, JWy.1.2.two (by omega) _ _⟩, b2 JWy.2 (by omega) _ _⟩
  refine hK.out _ _ ⟨e0.cell0, e0.cell1⟩ (fun hHeld => ?_)
  clear hK K hWz x0 x1 g0 g1 q0 q2 q3 q4
  have q0 := e0
  clear e0
  have q2 := e2
  clear e2
  have q3 := e3
  clear e3
  have q4 := e4
  clear e4
  try simp only [Act.put, List.setIfInBounds_toArray, List.set_cons_zero, List.set_cons_succ]
  refine wpAnyH_ready (rs := [9]) (by kernel_rfl) (by simp) ?_
  refine AllReadyH.cons rfl (fun K hK => ?_) AllReadyH.nil
  go_simp
  refine hK.out _ _ (by assumption) (fun hHeld2 => ?_)
  clear hK K hHeld2
  try simp only [Act.put, List.setIfInBounds_toArray, List.set_cons_zero, List.set_cons_succ]
  refine wpAnyH_done (by kernel_rfl) ?_ _
  have h20 := q2.cell0
  have h21 := q2.cell1
  have h30 := q3.cell0
  have h31 := q3.cell1
  have h40 := q4.cell0
  have h41 := q4.cell1
  go_wp2_with fail
  refine bodyPost_ret (v := .tuple #[.agg #[.bool n6, .slice A6 l6.length c6], .agg #[.bool n8, .slice A8 l8.length c8], .agg #[.bool false, .slice none 0 0], .int .i64 0]) (by simp [results, Tryz.results15, go_sem, h20, h21, h30, h31, h40, h41]) rfl ?_
  rw [HSV.out]
  exact ⟨n6, A6, c6, l6, n8, A8, c8, l8, false, none, 0, [], rfl, JWz.1.1.mono hwd.size, JWz.1.2.mono hwd.size, IP.zero _ _, JWz.2⟩

theorem Gcd_iv {w : World} {n m : Bool} {A B : Option Addr} {c d : Nat} {l k : List Nat} {x y z : Int} (h : IV w n A c l x) (h2 : IV w m B d k y) (hz : ((Nat.gcd x.natAbs y.natAbs : Nat) : Int) = z) (hlt : Lt 300 z) :
    Calls Tryz.prog 24 #[.agg #[.bool n, .slice A l.length c], .agg #[.bool m, .slice B k.length d]] w (RIV w z) := by
  have e1 := h.len
  have e2 := h2.len
  refine (Gcd_any w w n m A B l.length c k.length d l k true true rfl rfl (by omega) (by omega) h.ws h2.ws h.can h2.can (b0 _)).mono fun e w' hr => hr.iv ?_ hlt
  rw [val_abs h.val, val_abs h2.val]; exact hz
/-- What Bezout's factors are. -/
structure BF (x y u v : Int) : Prop where
  comb : u * x + v * y = ((Nat.gcd x.natAbs y.natAbs : Nat) : Int)
  least : y ≠ 0 → 0 ≤ u ∧ u * (Nat.gcd x.natAbs y.natAbs : Nat) < (y.natAbs : Int)
  ul : Lt 160 u
  vl : Lt 160 v
/-- A call of Bezout returned the greatest common divisor and the factors. -/
def RBEZ (w : World) (x y : Int) (e : Ending) (w' : World) : Prop :=
  ∃ u v n1 A1 c1 l1 n2 A2 c2 l2 n3 A3 c3 l3, e = .returned (.tuple #[.agg #[.bool n1, .slice A1 l1.length c1], .agg #[.bool n2, .slice A2 l2.length c2], .agg #[.bool n3, .slice A3 l3.length c3], .int .i64 0]) ∧
    BF x y u v ∧ IV w' n1 A1 c1 l1 ((Nat.gcd x.natAbs y.natAbs : Nat) : Int) ∧ IV w' n2 A2 c2 l2 u ∧ IV w' n3 A3 c3 l3 v ∧ Below w.heap.size w w'
theorem ip_iv {a w' : World} {n : Bool} {A : Option Addr} {c : Nat} {l : List Nat} {z : Int} (h : IP a w' n A c l z) (hlt : Lt 300 z) : IV w' n A c l z := .of h.1 h.2.1.ws h.2.2.1 h.2.2.2 hlt
theorem lt_zero (i : Nat) : Lt i 0 := by unfold Lt; exact BB_pos i
theorem lt_gcd {i : Nat} {x y : Int} (h : Lt i x) (k : Lt i y) : Lt i ((Nat.gcd x.natAbs y.natAbs : Nat) : Int) := by
  unfold Lt at *
  rw [Int.natAbs_natCast]
  rcases Nat.eq_zero_or_pos x.natAbs with h0 | h0
  · rw [h0, Nat.gcd_zero_left]; exact k
  · exact Nat.lt_of_le_of_lt (Nat.gcd_le_left _ h0) h
theorem Bez_iv {w : World} {n m : Bool} {A B : Option Addr} {c d : Nat} {l k : List Nat} {x y : Int} (h : IV w n A c l x) (h2 : IV w m B d k y) (hx : Lt 50 x) (hy : Lt 50 y) :
    Calls Tryz.prog 15 #[.agg #[.bool n, .slice A l.length c], .agg #[.bool m, .slice B k.length d]] w (RBEZ w x y) := by
  have e1 := h.len
  have e2 := h2.len
  have v1 := val_abs h.val
  have v2 := val_abs h2.val
  have hg := lt_gcd hx hy
  by_cases hk0 : k.length = 0
  · have hy0 : y = 0 := by
      have := (val_eq_zero (isB_top h2.can)).2 hk0
      omega
    refine (Bezout_zero w n m A B c d l k (by omega) h.ws h2.ws h.can h2.can hk0).mono ?_
    rintro e w' ⟨n1, A1, c1, l1, n2, A2, c2, l2, n3, A3, c3, l3, rfl, i1, i2, i3, hb⟩
    subst hy0
    have hs : sgn true n l = cmpI x 0 := by rw [sgn_eq h.can, h.val]
    have hsl : Lt 160 (sgn true n l) := by
      refine lt_le (lt_one ?_) (show 1 ≤ 160 by decide)
      unfold sgn; split <;> (try split) <;> decide
    refine ⟨sgn true n l, 0, n1, A1, c1, l1, n2, A2, c2, l2, n3, A3, c3, l3, rfl, ⟨?_, fun h => absurd rfl h, hsl, lt_zero _⟩, ?_, ip_iv i2 (lt_le hsl (by decide)), ip_iv i3 (lt_zero _), hb⟩
    · rw [hs, Int.natAbs_zero, Nat.gcd_zero_right]
      unfold cmpI
      split
      · omega
      · split <;> omega
    · have := ip_iv i1 (z := ((val l : Nat) : Int)) (by rw [v1]; exact lt_le (show Lt 50 ((x.natAbs : Nat) : Int) from hx) (by decide))
      rwa [v1, show x.natAbs = Nat.gcd x.natAbs (Int.natAbs 0) by simp] at this
  · have hkp : 0 < k.length := Nat.pos_of_ne_zero hk0
    have hy0 : y ≠ 0 := by
      have := val_pos (isB_top h2.can) hkp
      omega
    have hyp : 0 < y.natAbs := by omega
    refine (Bezout_any w n m A B l.length c k.length d l k rfl rfl (by omega) (by omega) h.cap h.ws h2.ws h.can h2.can hkp).mono ?_
    rintro e w' ⟨U, ⟨hU1, z, hU2⟩, n1, A1, c1, l1, n2, A2, c2, l2, n3, A3, c3, l3, rfl, i1, i2, i3, hb⟩
    have hz1 : (if n then -(val l : Int) else (val l : Int)) = x := h.val
    have hz2 : (if m then -(val k : Int) else (val k : Int)) = y := h2.val
    rw [hz1, hz2] at i3
    rw [hz1, v1, v2] at hU2
    rw [v1, v2] at hU1 i1 i3
    obtain ⟨g, hge⟩ : ∃ g, g = Nat.gcd x.natAbs y.natAbs := ⟨_, rfl⟩
    have hg0 : 0 < g := by rw [hge]; exact Nat.gcd_pos_of_pos_right _ hyp
    rw [← hge] at hU1 hU2 i1 i3 hg
    have hdv : ∃ t, (g : Int) - U * x = t * y := by
      rw [hU2]
      rcases Int.natAbs_eq y with hh | hh
      · exact ⟨-z, by rw [← hh, Int.neg_mul]; omega⟩
      · exact ⟨z, by rw [show ((y.natAbs : Nat) : Int) = -y by omega, Int.mul_neg]; omega⟩
    obtain ⟨t, ht⟩ := hdv
    rw [ht, Int.mul_ediv_cancel _ hy0] at i3
    have hUl : U < y.natAbs := Nat.lt_of_le_of_lt (Nat.le_mul_of_pos_right U hg0) hU1
    have hUL : Lt 50 (U : Int) := Nat.lt_trans (by simpa using hUl) hy
    have hVL : Lt 151 t := by
      have h1 : Lt 151 (t * y) := by rw [← ht]; exact lt_sub hg (lt_mul hUL hx) |> fun h => lt_le h (by decide)
      unfold Lt at *
      rw [Int.natAbs_mul] at h1
      exact Nat.lt_of_le_of_lt (Nat.le_mul_of_pos_right _ hyp) h1
    refine ⟨(U : Int), t, n1, A1, c1, l1, n2, A2, c2, l2, n3, A3, c3, l3, rfl, ⟨?_, fun _ => ⟨by omega, ?_⟩, lt_le hUL (by decide), lt_le hVL (by decide)⟩, ?_, ip_iv i2 (lt_le hUL (by decide)), ip_iv i3 (lt_le hVL (by decide)), hb⟩
    · rw [← hge]; omega
    · rw [← hge]; have := Int.ofNat_lt.2 hU1; simpa using this
    · rw [← hge]; exact ip_iv i1 (lt_le hg (by decide))
end Go.Proofs.YtgljdfblgpdaaaaGreatDoor
