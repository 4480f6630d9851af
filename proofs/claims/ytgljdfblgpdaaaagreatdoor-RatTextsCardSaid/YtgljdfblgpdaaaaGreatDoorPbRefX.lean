import Derived.Test.YtgljdfblgpdaaaaGreatDoorPbRefV
set_option linter.unusedSimpArgs false
set_option linter.unusedVariables false
set_option maxRecDepth 100000
set_option maxHeartbeats 4000000
namespace Go.Proofs.YtgljdfblgpdaaaaGreatDoor
open Go.RowKit Go.Shelf
theorem QBits_iv {w : World} {n m : Bool} {A B : Option Addr} {c d : Nat} {l k : List Nat} {x y : Int} (h : IV w n A c l x) (h2 : IV w m B d k y) :
  Calls Tryz.prog 114 #[.agg #[.bool n, .slice A l.length c, .bool m, .slice B k.length d]] w fun e w' => e = .returned (.int .i64 ((max (bl l) (bl k) : Nat) : Int)) ∧ Below w.heap.size w w' := by
 have H1 := Hi h
 have H2 := Hi h2
 clear h h2
 obtain ⟨W1, hW1, hw1, x0⟩ := hdQ w n A c l m B d k
 go_enter Tryz.func114, Tryz.ntmps114
 go_wp2_with fail
 rw [← hW1]
 clear hW1
 refine g0 ?_
 intros
 have HC := x0.hc
 have HW := Hi hw1
 have Gx0 := Hi x0
 clear x0 hw1
 refine rg0 7 HC fun hHeld => ?_
 refine tk 0 ?_
 refine tk 1 ?_
 refine tk 3 ?_
 refine tk 4 ?_
 refine cl 2 fun K hK => ?_
 go_simp
 go_at_call 78
 refine (Bits_iv (H1.out.below (bt HW.out (bw (b0 _))))).mono ?_
 rintro e wa ⟨rfl, hb⟩
 have HBwa := Hi (bt (bw (b0 W1)) hb)
 clear hb  hHeld
 refine rk hK (HC.out _ HBwa.out) fun hHeld => ?_
 clear hK K
 refine cl 5 fun K hK => ?_
 go_simp
 go_at_call 78
 refine (Bits_iv (H2.out.below (bt HW.out HBwa.out))).mono ?_
 rintro e wb ⟨rfl, hb⟩
 have HBwb := Hi (bt HBwa.out hb)
 clear hb  hHeld
 refine rk hK (HC.out _ HBwb.out) fun hHeld => ?_
 clear hK K
 refine tk 6 ?_
 refine wpAnyH_done (by kernel_rfl) ?_ _
 simp only [HT]
 clear hHeld
 have hw1_ := bt HW.out HBwb.out
 go_wp2_with fail
 go_ret
 exact ⟨by rw [show ((max (bl l) (bl k) : Nat) : Int) = max ((bl l : Nat) : Int) ((bl k : Nat) : Int) by omega]; rfl, hw1_⟩
open Go.RowKit Go.Shelf
variable {A B : Option Addr} {M c d : Nat} {W W' w : World} {er x y z : Int} {k l : List Nat} {m n : Bool}
structure JV (M : Nat) (W : World) (n : Bool) (A : Option Addr) (c : Nat) (l : List Nat) (z : Int) : Prop where
 cap : l.length ≤ c
 ws : WS W A l
 can : isB n l = true
 val : zI n l = z
 len : l.length ≤ M
theorem JV.below (h : JV M W n A c l z) (hb : Below W.heap.size W W') : JV M W' n A c l z :=
 ⟨h.cap, h.ws.below hb, h.can, h.val, h.len⟩
theorem JV.b (h : JV M W n A c l z) (hb : Below W.heap.size W W' := by (first | exact b0 _ | (repeat (first | exact Hid.out (by assumption) | refine bt (Hid.out (by assumption)) ?_)))) : JV M W' n A c l z := h.below hb
theorem JV.iv (h : JV M W n A c l z) (hz : Lt 2100 z) : IV W n A c l z := .of h.cap h.ws h.can h.val hz
theorem JV.mono {M N : Nat} (h : JV M W n A c l z) (hM : M ≤ N) : JV N W n A c l z := ⟨h.cap, h.ws, h.can, h.val, Nat.le_trans h.len hM⟩
theorem JV.four (h : JV M W n A c l z) {p : Nat} {u v : Bool} {B C : Option Addr} {k d i e : Nat} (hb : Box4 W p (.bool u) (.slice B k d) (.bool v) (.slice C i e)) (x y s t : Value) :
  JV M ((((W.setCell ⟨p, 0, none⟩ x).setCell ⟨p, 1, none⟩ y).setCell ⟨p, 2, none⟩ s).setCell ⟨p, 3, none⟩ t) n A c l z := by
 have ho := ws_off4 h.ws hb
 exact ⟨h.cap, (h.ws.two ho _ _).two23 ho _ _, h.can, h.val, h.len⟩
def RQJ (M : Nat) (w : World) (p q er : Int) (e : Ending) (w' : World) : Prop :=
 ∃ n A c l m B d k, e = .returned (.tuple #[.agg #[.bool n, .slice A l.length c, .bool m, .slice B k.length d], .int .i64 er]) ∧ JV M w' n A c l p ∧ JV M w' m B d k q ∧ Below w.heap.size w w'
theorem rqj_store {r : Nat} (hW : Below w.heap.size w W) (hp : w.heap.size ≤ r) (hbx : Box4 W r (.bool false) (.slice none 0 0) (.bool false) (.slice none 0 0)) (h : JV M W n A c l x) (h2 : JV M W m B d k y) :
  RQJ M w x y er (.returned (.tuple #[.agg #[.bool n, .slice A l.length c, .bool m, .slice B k.length d], .int .i64 er])) ((((W.setCell ⟨r, 0, none⟩ (.bool n)).setCell ⟨r, 1, none⟩ (.slice A l.length c)).setCell ⟨r, 2, none⟩ (.bool m)).setCell ⟨r, 3, none⟩ (.slice B k.length d)) :=
 ⟨n, A, c, l, m, B, d, k, rfl, h.four hbx _ _ _ _, h2.four hbx _ _ _ _, b4 hW hp _ _ _ _⟩
theorem RQJ.iv {p q er : Int} {e : Ending} {w' : World} (h : RQJ M w p q er e w') (hp : Lt 2100 p) (hq : Lt 2100 q) : RQE w p q er e w' := by
 obtain ⟨n, A, c, l, m, B, d, k, he, i1, i2, hb⟩ := h
 exact ⟨n, A, c, l, m, B, d, k, he, i1.iv hp, i2.iv hq, hb⟩
structure Fit (l : List Nat) (e : Nat) : Prop where
 top : e < 9223372036854775808
 fit : ∀ j, j ≤ e → val l ^ j < BB 4200
 lim : ¬ (1 < bl l ∧ 1048576 / bl l < e)
theorem Pow_jv {x : Nat} (h : IV w n A c l z) (hf : Fit l x) :
  Calls Tryz.prog 72 #[.agg #[.bool n, .slice A l.length c], .int .i64 (x : Int)] w fun e w' => ∃ n1 A1 c1 l1, e = .returned (.tuple #[.agg #[.bool n1, .slice A1 l1.length c1], .int .i64 0]) ∧ JV 4200 w' n1 A1 c1 l1 (z ^ x) ∧ Below w.heap.size w w' := by
 have e1 := h.len
 refine (Pow_gen w w n A c l x 4200 (by omega) (by omega) h.cap hf.top hf.fit h.can hf.lim h.ws (b0 _)).mono ?_
 rintro e w' ⟨n1, A1, c1, l1, rfl, hi, hb⟩
 rw [h.val] at hi
 refine ⟨n1, A1, c1, l1, rfl, ⟨hi.1, hi.2.1.ws, hi.2.2.1, hi.2.2.2, ?_⟩, hb⟩
 have h3 := hf.fit x (Nat.le_refl x)
 rw [val_abs h.val] at h3
 have h4 := val_abs hi.2.2.2
 rw [Int.natAbs_pow] at h4
 rw [← h4] at h3
 exact top_len (isB_top hi.2.2.1) h3
theorem power_jv (h : IV w n A c l x) (h2 : IV w m B d k y) {z : Nat} (f1 : Fit l z) (f2 : Fit k z) :
  Calls Tryz.prog 115 #[.agg #[.bool n, .slice A l.length c, .bool m, .slice B k.length d], .int .i64 (z : Int)] w (RQJ 4200 w (x ^ z) (y ^ z) 0) := by
 have H1 := Hi h
 have H2 := Hi h2
 have F1 := Hi f1
 have F2 := Hi f2
 clear h h2 f1 f2
 obtain ⟨W1, hW1, hw1, x0, x1⟩ := hdQq w n A c l m B d k
 go_enter Tryz.func115, Tryz.ntmps115
 go_wp2_with fail
 rw [← hW1]
 clear hW1
 refine g0 ?_
 intros
 refine (Pow_jv (H1.out.below hw1) F1.out).mono ?_
 rintro e w2 ⟨n1, A1, c1, l1, rfl, i1, hb⟩
 replace x0 := x0.below hb
 replace x1 := x1.below hb
 have hw1_ := bt hw1 hb
 clear hb hw1
 have J1 := Hi i1
 clear i1
 go_upto_region 2 with fail
 obtain ⟨w3, hw⟩ : ∃ W, W = w2.alloc (.cells #[.bool n1, .slice A1 l1.length c1] 24) := ⟨_, rfl⟩
 have xp : Box2 w3 (w2.heap.size) (.bool n1) (.slice A1 l1.length c1) := by
  rw [hw]
  have h := Box2.new w2 (.bool n1) (.slice A1 l1.length c1)
  exact h
 have hb : Below w2.heap.size w2 w3 := by rw [hw]; exact ba (b0 _) _
 rw [← hw]
 clear hw
 replace x0 := x0.below hb
 replace x1 := x1.below hb
 replace J1 := Hi (J1.out.below hb)
 have hw2_ := bt hw1_ hb
 clear hb hw1_
 refine g0 ?_
 intros
 refine (Pow_jv (H2.out.below hw2_) F2.out).mono ?_
 rintro e w4 ⟨n2, A2, c2, l2, rfl, i2, hb⟩
 replace x0 := x0.below hb
 replace x1 := x1.below hb
 replace xp := xp.below hb
 replace J1 := Hi (J1.out.below hb)
 have hw3_ := bt hw2_ hb
 clear hb hw2_
 have J2 := Hi i2
 clear i2
 go_upto_region 5 with fail
 obtain ⟨w5, hw⟩ : ∃ W, W = w4.alloc (.cells #[.bool n2, .slice A2 l2.length c2] 24) := ⟨_, rfl⟩
 have xq : Box2 w5 (w4.heap.size) (.bool n2) (.slice A2 l2.length c2) := by
  rw [hw]
  have h := Box2.new w4 (.bool n2) (.slice A2 l2.length c2)
  exact h
 have hb : Below w4.heap.size w4 w5 := by rw [hw]; exact ba (b0 _) _
 rw [← hw]
 clear hw
 replace x0 := x0.below hb
 replace x1 := x1.below hb
 replace xp := xp.below hb
 replace J1 := Hi (J1.out.below hb)
 replace J2 := Hi (J2.out.below hb)
 have hw4_ := bt hw3_ hb
 clear hb hw3_
 obtain ⟨Cp0, Cp1⟩ := xp.cs
 obtain ⟨Cq0, Cq1⟩ := xq.cs
 obtain ⟨f0, f1, f2, f3⟩ := x1.fr
 obtain ⟨r0, r1, r2, r3⟩ := x1.cs
 go_wp2_with fail
 obtain ⟨f0, f1, f2, f3⟩ := x1.fr
 obtain ⟨r0, r1, r2, r3⟩ := x1.cs
 go_wp2_with fail
 have z2 := x1.stored (.bool n1) (.slice A1 l1.length c1) (.bool n2) (.slice A2 l2.length c2)
 obtain ⟨k0, k1, k2, k3⟩ := z2.cs
 refine bodyPost_ret (v := .tuple #[.agg #[.bool n1, .slice A1 l1.length c1, .bool n2, .slice A2 l2.length c2], .int .i64 0]) (by simp [results, Tryz.results115, go_sem, k0, k1, k2, k3]) rfl ?_
 exact rqj_store hw4_ (by omega) x1 J1.out J2.out
open Go.RowKit Go.Shelf
variable {e : Nat} {z : Int}
theorem fit_iv {W W' : World} {n n' : Bool} {A A' : Option Addr} {c c' : Nat} {l l' : List Nat} {z z' : Int} (h : IV W n A c l z) (h' : IV W' n' A' c' l' z') (hz : z'.natAbs = z.natAbs) (f : Fit l e) : Fit l' e := by
 have e1 : l' = l := top_inj h'.ws.1 h.ws.1 (isB_top h'.can) (isB_top h.can) (by rw [val_abs h'.val, val_abs h.val, hz])
 rw [e1]; exact f
theorem QPow_bign {w : World} {n m : Bool} {A B : Option Addr} {c d : Nat} {l k : List Nat} {x y : Int} (h : IV w n A c l x) (h2 : IV w m B d k y) (hx : x ≠ 0) (hn : z ≠ 0 ∧ -9223372036854775808 ≤ z ∧ z ≤ 9223372036854775807) (hk : 1 < max (bl l) (bl k)) (f1 : Fit l e) (f2 : Fit k e) (hlim : z ≤ (1048576 / max (bl l) (bl k) : Nat) ∧ -((1048576 / max (bl l) (bl k) : Nat) : Int) ≤ z) (he : z = -(e : Int)) (hxs : x < 0) :
  Calls Tryz.prog 55 #[.agg #[.bool n, .slice A l.length c, .bool m, .slice B k.length d], .int .i64 z] w (RQJ 4200 w ((-y) ^ e) ((-x) ^ e) 0) := by
 have HX := Hi hx
 clear hx
 have HN := Hi hn
 clear hn
 have F1 := Hi f1
 have F2 := Hi f2
 clear f1 f2
 have HK := Hi hk
 clear hk
 have HXS := Hi hxs
 clear hxs
 have HE := Hi he
 clear he
 have HLIM := Hi hlim
 clear hlim
 have hn1 : (z == 0) = false := beq_eq_false_iff_ne.2 HN.out.1
 have H1 := Hi h
 have H2 := Hi h2
 clear h h2
 obtain ⟨W1, hW1, hw1, x0, x1⟩ := hdQq w n A c l m B d k
 go_enter Tryz.func55, Tryz.ntmps55
 go_wp2_with fail
 rw [← hW1]
 clear hW1
 obtain ⟨C00, C01, C02, C03⟩ := x0.cs
 go_wp2_with fail
 refine (QSign_iv (H1.out.below hw1) (H2.out.below hw1)).mono ?_
 rintro e w2 ⟨rfl, hb⟩
 clear C00 C01 C02 C03
 replace x0 := x0.below hb
 replace x1 := x1.below hb
 have hw1_ := bt hw1 hb
 clear hb hw1
 obtain ⟨sg, hsg⟩ : ∃ s, s = cmpI x 0 := ⟨_, rfl⟩
 have hsg0 : sg ≠ 0 := by
  rcases Int.lt_trichotomy x 0 with h | h | h
  ·rw [hsg, cmpI_neg h]; decide
  ·exact absurd h HX.out
  ·rw [hsg, cmpI_pos h]; decide
 rw [← hsg]
 have hsg1 : (sg == 0) = false := beq_eq_false_iff_ne.2 hsg0
 have HSG := Hi hsg
 clear hsg
 obtain ⟨C00, C01, C02, C03⟩ := x0.cs
 go_wp2_with fail
 refine (QSign_iv (H1.out.below hw1_) (H2.out.below hw1_)).mono ?_
 rintro e w3 ⟨rfl, hb⟩
 clear C00 C01 C02 C03
 replace x0 := x0.below hb
 replace x1 := x1.below hb
 have hw2_ := bt hw1_ hb
 clear hb hw1_
 rw [← HSG.out]
 obtain ⟨C00, C01, C02, C03⟩ := x0.cs
 go_wp2_with fail
 refine (QBits_iv (H1.out.below hw2_) (H2.out.below hw2_)).mono ?_
 rintro e w4 ⟨rfl, hb⟩
 clear C00 C01 C02 C03
 replace x0 := x0.below hb
 replace x1 := x1.below hb
 have hw3_ := bt hw2_ hb
 clear hb hw2_
 obtain ⟨K, hKK⟩ : ∃ K, K = max (bl l) (bl k) := ⟨_, rfl⟩
 rw [← hKK]
 rw [← hKK] at HK
 have hk1 : ¬ (K : Int) ≤ 1 := by have := HK.out; omega
 have hk0 : ((K : Int) == 0) = false := beq_eq_false_iff_ne.2 (by have := HK.out; omega)
 obtain ⟨D, hD⟩ : ∃ D, D = 1048576 / K := ⟨_, rfl⟩
 have hdiv : (1048576 : Int).tdiv (K : Int) = (D : Int) := by rw [Int.tdiv_eq_ediv_of_nonneg (by omega), hD]; simp
 have hDl : D ≤ 1048576 := by rw [hD]; exact Nat.div_le_self _ _
 have hdiv2 : (1048576 : Int) / (K : Int) = (D : Int) := by rw [hD]; simp
 have hwD : wrap64 (D : Int) = (D : Int) := by unfold wrap64; omega
 have hwn : wrap64 (-(D : Int)) = -(D : Int) := by unfold wrap64; omega
 rw [← hKK, ← hD] at HLIM
 have hz1 : ¬ (D : Int) < z := by have := HLIM.out; omega
 have hz2 : ¬ z < -(D : Int) := by have := HLIM.out; omega
 clear hKK hD
 have hzn : z < 0 := by have h1 := HE.out; have h2 := HN.out; omega
 have hwz : wrap64 (-z) = (e : Int) := by have h1 := HE.out; have h2 := F1.out.top; unfold wrap64; omega
 have hmz : -z = (e : Int) := by have h1 := HE.out; omega
 obtain ⟨C00, C01, C02, C03⟩ := x0.cs
 go_wp2_with fail
 refine (upright_neg (H2.out.below hw3_) (H1.out.below hw3_) HXS.out).mono ?_
 rintro e w5 ⟨n5, A5, c5, l5, n6, A6, c6, l6, rfl, i5, i6, hb⟩
 clear C00 C01 C02 C03
 replace x0 := x0.below hb
 replace x1 := x1.below hb
 have hw4_ := bt hw3_ hb
 clear hb hw3_
 have J5 := Hi i5
 have J6 := Hi i6
 clear i5 i6
 go_wp2_with fail
 refine (power_jv J5.out J6.out (fit_iv H2.out J5.out (by rw [Int.natAbs_neg]) F2.out) (fit_iv H1.out J6.out (by rw [Int.natAbs_neg]) F1.out)).mono ?_
 rintro e w6 ⟨n3, A3, c3, l3, n4, A4, c4, l4, rfl, i3, i4, hb⟩
 replace x0 := x0.below hb
 replace x1 := x1.below hb
 replace J5 := Hi (J5.out.below hb)
 replace J6 := Hi (J6.out.below hb)
 have hw5_ := bt hw4_ hb
 clear hb hw4_
 have J3 := Hi i3
 have J4 := Hi i4
 clear i3 i4
 obtain ⟨f0, f1, f2, f3⟩ := x1.fr
 obtain ⟨r0, r1, r2, r3⟩ := x1.cs
 go_wp2_with fail
 have z2 := x1.stored (.bool n3) (.slice A3 l3.length c3) (.bool n4) (.slice A4 l4.length c4)
 obtain ⟨k0, k1, k2, k3⟩ := z2.cs
 refine bodyPost_ret (v := .tuple #[.agg #[.bool n3, .slice A3 l3.length c3, .bool n4, .slice A4 l4.length c4], .int .i64 0]) (by simp [results, Tryz.results55, go_sem, k0, k1, k2, k3]) rfl ?_
 exact rqj_store hw5_ (by omega) x1 J3.out J4.out
open Go.RowKit Go.Shelf
variable {N V m : Nat} {T x y : Int}
theorem sq_pow (y : Int) (q : Nat) : (y * y) ^ q = y ^ (2 * q) := by
 induction q with
 | zero => simp
 | succ q ih =>
  rw [Int.pow_succ, ih, show 2 * (q + 1) = 2 * q + 1 + 1 from by omega, Int.pow_succ, Int.pow_succ, Int.mul_assoc]
theorem natAbs_pow' (y : Int) (q : Nat) : (y ^ q).natAbs = y.natAbs ^ q := by
 induction q with
 | zero => simp
 | succ q ih => rw [Int.pow_succ, Int.natAbs_mul, ih, Nat.pow_succ]
structure PwI (V N m : Nat) (x y : Int) (T : Int) : Prop where
 eq : x * y ^ m = T
 pos : 0 < T.natAbs
 fit : T.natAbs < BB 200
theorem PwI.x_pos (h : PwI V N m x y T) : 0 < x.natAbs ∧ 0 < y.natAbs ^ m := by
 have e := congrArg Int.natAbs h.eq
 rw [Int.natAbs_mul, natAbs_pow'] at e
 have h1 := h.pos
 constructor
 ·rcases Nat.eq_zero_or_pos x.natAbs with h0 | h0
  ·rw [h0, Nat.zero_mul] at e; omega
  ·exact h0
 ·rcases Nat.eq_zero_or_pos (y.natAbs ^ m) with h0 | h0
  ·rw [h0, Nat.mul_zero] at e; omega
  ·exact h0
theorem PwI.le (h : PwI V N m x y T) {j : Nat} (hj : j ≤ m) (hm : 0 < m) : x.natAbs * y.natAbs ^ j < BB 200 ∧ y.natAbs ^ j < BB 200 := by
 have e := congrArg Int.natAbs h.eq
 rw [Int.natAbs_mul, natAbs_pow'] at e
 obtain ⟨h1, h2⟩ := h.x_pos
 have hy : 0 < y.natAbs := by
  rcases Nat.eq_zero_or_pos y.natAbs with h0 | h0
  ·rw [h0, Nat.zero_pow hm] at h2; omega
  ·exact h0
 have h3 : y.natAbs ^ j ≤ y.natAbs ^ m := Nat.pow_le_pow_right hy hj
 have h4 := Nat.mul_le_mul_left x.natAbs h3
 have h5 := Nat.le_mul_of_pos_left (y.natAbs ^ j) h1
 have h6 := h.fit
 omega
theorem PwI.odd {V N q : Nat} (h : PwI V N (2 * q + 1) x y T) : PwI V N q (x * y) (y * y) T := by
 refine ⟨?_, h.pos, h.fit⟩
 rw [sq_pow, ← h.eq, Int.pow_succ, Int.mul_assoc, Int.mul_comm y]
end Go.Proofs.YtgljdfblgpdaaaaGreatDoor
