import Derived.Test.YtgljdfblgpdaaaaGreatDoorPbNumDivI
set_option linter.unusedSimpArgs false
set_option linter.unusedVariables false
set_option maxRecDepth 100000
set_option maxHeartbeats 4000000
namespace Go.Proofs.YtgljdfblgpdaaaaGreatDoor
open Go.RowKit
variable {A : Option Addr} {a a0 b b0 cx cy p q s u v : Nat} {l : List Nat} {o odd : Bool} {w w4 : World}
def TR (a0 b0 a b p q u v : Nat) (odd : Bool) : Prop :=
 a0 = v * a + q * b ∧ b0 = u * a + p * b ∧ (if odd then a + p * a0 = q * b0 ∧ b + v * b0 = u * a0 else a + q * b0 = p * a0 ∧ b + u * a0 = v * b0) ∧
  (q ≤ v ∧ 0 < v ∧ (q = 0 → a = a0 ∧ b = b0) ∧ (b0 < a0 → q < v ∨ 0 < b) ∧ ((p = 1 ∧ q = 0 ∧ u = 0 ∧ v = 1) ∨ (p ≤ u ∧ 0 < q ∧ 0 < u)))
theorem TR.start (a b : Nat) : TR a b a b 1 0 0 1 false := ⟨by omega, by omega, by simp, by omega, by omega, by simp, by omega, .inl ⟨rfl, rfl, rfl, rfl⟩⟩
theorem TR.step {a0 b0 a b p q u v c r : Nat} (h : TR a0 b0 a b p q u v odd) (hc : a = c * b + r) (hc0 : 0 < c) : TR a0 b0 b r u v (p + c * u) (q + c * v) (!odd) := by
 obtain ⟨h1, h2, h3, h9, h10, h11, h12, h13⟩ := h
 have e9 : v ≤ c * v := Nat.le_mul_of_pos_left v hc0
 have e13 : u ≤ c * u := Nat.le_mul_of_pos_left u hc0
 have e10 : b0 < a0 → v < q + c * v ∨ 0 < r := fun hlt => by
  by_cases hq : q = 0
  ·obtain ⟨rfl, rfl⟩ := h11 hq
   by_cases h1c : c = 1
   ·subst h1c; right; omega
   ·left
    have : 2 * v ≤ c * v := Nat.mul_le_mul_right v (by omega)
    omega
  ·left; omega
 have e1 : v * a = v * c * b + v * r := by rw [hc, Nat.mul_add, Nat.mul_assoc]
 have e2 : u * a = u * c * b + u * r := by rw [hc, Nat.mul_add, Nat.mul_assoc]
 have e3 : (q + c * v) * b = q * b + v * c * b := by rw [Nat.add_mul, Nat.mul_comm c v]
 have e4 : (p + c * u) * b = p * b + u * c * b := by rw [Nat.add_mul, Nat.mul_comm c u]
 have e5 : (q + c * v) * b0 = q * b0 + c * (v * b0) := by rw [Nat.add_mul, Nat.mul_assoc]
 have e6 : (p + c * u) * a0 = p * a0 + c * (u * a0) := by rw [Nat.add_mul, Nat.mul_assoc]
 refine ⟨by omega, by omega, ?_, by omega, by omega, by omega, e10, .inr ⟨by omega, by omega, by omega⟩⟩
 cases odd
 ·simp only [Bool.false_eq_true, if_false] at h3
  obtain ⟨h4, h5⟩ := h3
  have e7 : c * (v * b0) = c * b + c * (u * a0) := by rw [← h5, Nat.mul_add]
  simp only [Bool.not_false, if_true]
  exact ⟨h5, by omega⟩
 ·simp only [if_true] at h3
  obtain ⟨h4, h5⟩ := h3
  have e7 : c * (u * a0) = c * b + c * (v * b0) := by rw [← h5, Nat.mul_add]
  simp only [Bool.not_true, Bool.false_eq_true, if_false]
  exact ⟨h5, by omega⟩
theorem TR.le (h : TR a0 b0 a b p q u v odd) (ha : 0 < a) (hb : 0 < b) : p ≤ b0 ∧ q ≤ a0 ∧ u ≤ b0 ∧ v ≤ a0 := by
 obtain ⟨h1, h2, _, _⟩ := h
 have e1 := Nat.le_mul_of_pos_right p hb
 have e2 := Nat.le_mul_of_pos_right q hb
 have e3 := Nat.le_mul_of_pos_right u ha
 have e4 := Nat.le_mul_of_pos_right v ha
 omega
theorem TR.le' (h : TR a0 b0 a b p q u v odd) (ha : 0 < a) : u ≤ b0 ∧ v ≤ a0 := by
 obtain ⟨h1, h2, _, _⟩ := h
 have e3 := Nat.le_mul_of_pos_right u ha
 have e4 := Nat.le_mul_of_pos_right v ha
 omega
theorem TR.gcd (h : TR a0 b0 a 0 p q u v odd) : Nat.gcd a0 b0 = a := by
 obtain ⟨h1, h2, h3, _⟩ := h
 have d1 : a ∣ a0 := ⟨v, by rw [h1, Nat.mul_comm]; omega⟩
 have d2 : a ∣ b0 := ⟨u, by rw [h2, Nat.mul_comm]; omega⟩
 refine Nat.dvd_antisymm ?_ (Nat.dvd_gcd d1 d2)
 have g1 := Nat.gcd_dvd_left a0 b0
 have g2 := Nat.gcd_dvd_right a0 b0
 cases odd
 ·simp only [Bool.false_eq_true, if_false] at h3
  exact (Nat.dvd_add_left (Nat.dvd_trans g2 (Nat.dvd_mul_left b0 q))).1 (h3.1 ▸ Nat.dvd_trans g1 (Nat.dvd_mul_left a0 p))
 ·simp only [if_true] at h3
  exact (Nat.dvd_add_left (Nat.dvd_trans g1 (Nat.dvd_mul_left a0 p))).1 (h3.1 ▸ Nat.dvd_trans g2 (Nat.dvd_mul_left b0 q))
theorem quiet_l {P : Program} {f : FuncId} {args : Array Value} {n : Nat} {v : Value} (h : Calls P f args (w.drewN n) fun e w' => e = .returned v ∧ w.drewN n = w') :
  Calls P f args (w.drewN n) fun e w'' => e = .returned v ∧ ∃ m, w'' = w.drewN m := h.mono fun _ _ h => ⟨h.1, n, h.2.symm⟩
theorem ws_off_cells {t : TypeId} {A0 B0 X0 Y0 : Option Addr} {na ca nb cb nx cx ny cy : Nat} (h : WS w A l)
  (hs : Cells w s t #[.slice A0 na ca, .slice B0 nb cb, .slice X0 nx cx, .slice Y0 ny cy, .bool o]) : Off A l s := by
 intro hl b off e
 obtain ⟨b', off', e', _, hc⟩ := h.2 hl
 rw [e] at e'
 injection e' with e'
 injection e' with e1 e2
 subst e1 e2
 rintro rfl
 have h1 := hc 0 (List.length_pos_iff.2 hl)
 rw [Nat.add_zero, hs.at_ off] at h1
 match off, h1 with
 | 0, h1 => simp at h1
 | 1, h1 => simp at h1
 | 2, h1 => simp at h1
 | 3, h1 => simp at h1
 | 4, h1 => simp at h1
 | k + 5, h1 => simp at h1
def FinP (w : World) (s a0 b0 : Nat) (X Y : Option Addr) (cx cy : Nat) (lx ly : List Nat) (o : Bool) (e : Ending) (w' : World) : Prop :=
 ∃ (g p q u v : Nat) (odd : Bool) (A' X' Y' : Option Addr) (ca' cx' cy' : Nat) (la' lx' ly' : List Nat), e = .returned (.tuple #[]) ∧ TR a0 b0 g 0 p q u v odd ∧ la'.length ≤ ca' ∧ OwnS w w' A' la' ∧ Top la' ∧ val la' = g ∧
  Cells w' s 125 #[.slice A' la'.length ca', .slice none 0 0, .slice X' lx'.length cx', .slice Y' ly'.length cy', .bool (o != odd)] ∧
  (ly = [] → lx' = lx ∧ ly' = ly ∧ X' = X ∧ Y' = Y ∧ cx' = cx ∧ cy' = cy) ∧
  (ly ≠ [] → lx'.length ≤ cx' ∧ OwnS w w' X' lx' ∧ Top lx' ∧ val lx' = val lx * p + val ly * q ∧ ly'.length ≤ cy' ∧ OwnS w w' Y' ly' ∧ Top ly' ∧ val ly' = val lx * u + val ly * v) ∧ Only s w w'
theorem OwnS.set1 {a w : World} (h : OwnS a w A l) (hp : p < a.heap.size) (i : Nat) (x : Value) : OwnS a (w.setCell ⟨p, i, none⟩ x) A l := fun h0 => by
 obtain ⟨g, L, e, hg, hk, ht, hl⟩ := h h0
 exact ⟨g, L, e, hg, hk.only ((only_refl p w).set_ (.inl rfl) _) (by omega), ht, hl⟩
theorem only3 (h : Only s w w4) (x y z : Value) : Only s w (((w4.setCell ⟨s, 0, none⟩ x).setCell ⟨s, 1, none⟩ y).setCell ⟨s, 4, none⟩ z) :=
 ((h.set_ (p := ⟨s, 0, none⟩) (.inl rfl) x).set_ (p := ⟨s, 1, none⟩) (.inl rfl) y).set_ (p := ⟨s, 4, none⟩) (.inl rfl) z
theorem only2 {s i j : Nat} (h : Only s w w4) (x y : Value) : Only s w ((w4.setCell ⟨s, i, none⟩ x).setCell ⟨s, j, none⟩ y) :=
 (h.set_ (p := ⟨s, i, none⟩) (.inl rfl) x).set_ (p := ⟨s, j, none⟩) (.inl rfl) y
theorem neq_odd (o odd : Bool) : (o != odd) = (!o == odd) := by cases o <;> cases odd <;> rfl
def sv (A : Option Addr) (l : List Nat) (c : Nat) : Value := .slice A l.length c
theorem finish_any (w : World) (s : Nat) (A B X Y : Option Addr) (ca cb cx cy : Nat) (la lb lx ly : List Nat) (o : Bool) (ha : la.length ≤ 2) (hb : lb.length ≤ 2) (hx : lx.length ≤ 900000) (hy : ly.length ≤ 900000) (hlt : val lb ≤ val la) (h0 : 0 < val la)
  (hs : Cells w s 125 #[.slice A la.length ca, .slice B lb.length cb, .slice X lx.length cx, .slice Y ly.length cy, .bool o])
  (wa : WS w A la) (wb : WS w B lb) (wx : WS w X lx) (wy : WS w Y ly) :
  Calls Tryz.prog 178 #[.pointer (some ⟨s, 0, none⟩)] w (FinP w s (val la) (val lb) X Y cx cy lx ly o) := by
 have e1 := val_two ha
 have e2 := val_two hb
 have b1 := wa.lt 0
 have b2 := wa.lt 1
 have b3 := wb.lt 0
 have b4 := wb.lt 1
 have s1 := fun W h => single_any A la.length ca la W rfl (by omega) h
 have s2 := fun W h => single_any B lb.length cb lb W rfl (by omega) h
 rw [← e1] at s1
 rw [← e2] at s2
 have S1 := Hi s1
 have S2 := Hi s2
 obtain ⟨a0, ha0⟩ : ∃ x, x = val la := ⟨_, rfl⟩
 obtain ⟨b0', hb0⟩ : ∃ x, x = val lb := ⟨_, rfl⟩
 rw [← ha0] at S1 e1 hlt h0 ⊢
 rw [← hb0] at S2 e2 hlt ⊢
 have hal : a0 < 18446744073709551616 := by omega
 have hbl : b0' < 18446744073709551616 := by omega
 have q0 := hs.at_ 0
 have q1 := hs.at_ 1
 simp at q0 q1
 clear s1 s2 e1 e2 ha0 hb0
 go_enter Tryz.func178, Tryz.ntmps178
 go_wp2_with fail
 go_quiet ((go_at_call 133; first | (with_reducible exact quiet_l (S1.out _ (wa.below (bd (b0 _) _)))) | (with_reducible exact quiet_l (S2.out _ (wb.below (bd (b0 _) _))))))
 go_wp2_with fail
 refine (noTurn_any _).mono ?_
 rintro e w1 ⟨rfl, hb1⟩
 go_wp2_with fail
 obtain ⟨T, hT⟩ : ∃ T, T = w1.heap.size := ⟨_, rfl⟩
 have ht0 : Cells (w1.alloc (.cells #[.int .u64 1, .int .u64 0, .int .u64 0, .int .u64 1] 150)) T 150 #[.int .u64 1, .int .u64 0, .int .u64 0, .int .u64 1] := by rw [hT]; exact Cells.new _ _ _
 obtain ⟨W2, hW2⟩ : ∃ W, W = w1.alloc (.cells #[.int .u64 1, .int .u64 0, .int .u64 0, .int .u64 1] 150) := ⟨_, rfl⟩
 rw [← hW2] at ht0 ⊢
 rw [← hT]
 have hw2 : Below w.heap.size w W2 := by rw [hW2]; exact ba (bt (bd (b0 _) _) hb1) _
 have hsT : w.heap.size ≤ T := by rw [hT]; exact hb1.size
 clear hT hW2 hb1
 go_loopw [2, 3, 5] (fun av bv ov wr => ∃ (x y p q u v : Nat) (odd : Bool), av = .int .u64 (x : Int) ∧ bv = .int .u64 (y : Int) ∧ ov = .bool odd ∧ 0 < x ∧ y ≤ x ∧ x ≤ a0 ∧ Hid (TR a0 b0' x y p q u v odd) ∧ p < 18446744073709551616 ∧ q < 18446744073709551616 ∧ Cells wr T 150 #[.int .u64 (p : Int), .int .u64 (q : Int), .int .u64 (u : Int), .int .u64 (v : Int)] ∧ Only T W2 wr) (fun _ bv _ _ => (intOf bv).toNat)
 case atStart => exact ⟨a0, b0', 1, 0, 0, 1, false, rfl, rfl, rfl, h0, hlt, Nat.le_refl _, TR.start _ _, by omega, by omega, ht0, only_refl _ _⟩
 case round =>
  obtain ⟨x, y, p, q, u, v, odd, rfl, rfl, rfl, hx0, hya, hxa, hTR, hpl, hql, hcT, hO⟩ := hrel
  rcases Nat.eq_zero_or_pos y with rfl | hy0
  ·have hsw := (hs.below hw2).only hO (by have := hs.lt; omega)
   have hsl := hs.lt
   have hwr : Below w.heap.size w wr := bo hw2 hO hsT
   have hcTl := hcT.lt
   have l2 := TR.le' hTR.out hx0
   have r3 := hsw.at_ 3
   have r4 := hsw.at_ 4
   simp at r3 r4
   have wX := wx.below hwr
   have wY := wy.below hwr
   have oX := ws_off_cells wx hs
   have oY := ws_off_cells wy hs
   have hx64 : x < 18446744073709551616 := by omega
   go_wp2_with fail
   refine (fromSingle_any wr _ x hx64 (b0 _)).mono ?_
   rintro e w4 ⟨A1, c1, l1, rfl, hc1, ho1, ht1, hv1, hb4⟩
   have HV1 := Hi hv1
   clear hv1
   have hs4 := hsw.below hb4
   have v0 := hs4.at_ 0
   have v1 := hs4.at_ 1
   have v3 := hs4.at_ 3
   have v4 := hs4.at_ 4
   simp at v0 v1 v3 v4
   have fr0 := hs4.free 0
   have fr1 := hs4.free 1
   have fr2 := hs4.free 2
   have fr3 := hs4.free 3
   have fr4 := hs4.free 4
   have hs5 := (hs4.set_ 0 (.slice A1 l1.length c1)).set_ 1 (.slice none 0 0)
   simp only [Array.setIfInBounds, List.size_toArray, List.length_cons, List.length_nil] at hs5
   by_cases hly : ly = []
   ·subst hly
    go_wp2_with fail
    go_end0
    refine ⟨x, p, q, u, v, odd, A1, X, Y, c1, cx, cy, l1, lx, [], rfl, hTR.out, hc1, ?_, ht1, HV1.out, ?_, fun _ => ⟨rfl, rfl, rfl, rfl, rfl, rfl⟩, fun h => absurd rfl h, ?_⟩
    ·exact (((ho1.mono hwr.size).set1 hsl 0 _).set1 hsl 1 _).set1 hsl 4 _
    ·have h := hs5.set_ 4 (.bool (!o == odd))
     rw [neq_odd]
     simpa using h
    ·exact only3 ((Only.mono (g := s) hwr).below hb4) _ _ _
   ·have hlyn : (0 : Int) < (ly.length : Int) := by have := List.length_pos_iff.2 hly; omega
    go_wp2_with fail
    have hcT4 := (hcT.below hb4)
    have hcT5 := (hcT4.far (show T ≠ s from by omega) 0 (.slice A1 l1.length c1)).far (show T ≠ s from by omega) 1 (.slice none 0 0)
    obtain ⟨W5, hW5⟩ : ∃ W, W = (w4.setCell ⟨s, 0, none⟩ (.slice A1 l1.length c1)).setCell ⟨s, 1, none⟩ (.slice none 0 0) := ⟨_, rfl⟩
    have hO5 : Only s w W5 := by rw [hW5]; exact only2 ((Only.mono (g := s) hwr).below hb4) _ _
    have ho5 : OwnS w W5 A1 l1 := by rw [hW5]; exact ((ho1.mono hwr.size).set1 hsl 0 _).set1 hsl 1 _
    rw [← hW5] at hs5 hcT5 ⊢
    clear hW5
    have hs5 : Cells W5 s 125 #[.slice A1 l1.length c1, .slice none 0 0, .slice X lx.length cx, .slice Y ly.length cy, .bool o] := by simpa using hs5
    have wX5 : WS W5 X lx := wx.only hO5 oX
    have wY5 : WS W5 Y ly := wy.only hO5 oY
    clear v0 v1 v3 v4 r3 r4 fr0 fr1 fr2 fr3 fr4 hs4 hcT4 hsw wX wY
    have e2 := hs5.at_ 2
    have e3 := hs5.at_ 3
    have t0 := hcT5.at_ 0
    have t1 := hcT5.at_ 1
    have t2 := hcT5.at_ 2
    have t3 := hcT5.at_ 3
    simp at e2 e3 t0 t1 t2 t3
    refine wp_region_cut 28 1 (fun W => W.cell? ⟨s, 2, none⟩ = some (.slice X lx.length cx) ∧ W.cell? ⟨s, 3, none⟩ = some (.slice Y ly.length cy) ∧ W.cell? ⟨T, 0, none⟩ = some (.int .u64 (p : Int)) ∧ W.cell? ⟨T, 1, none⟩ = some (.int .u64 (q : Int)) ∧ W.cell? ⟨T, 2, none⟩ = some (.int .u64 (u : Int)) ∧ W.cell? ⟨T, 3, none⟩ = some (.int .u64 (v : Int))) (by kernel_rfl) (by decide) (by kernel_rfl) (by kernel_rfl) rfl (by kernel_rfl) (by kernel_rfl) (by kernel_rfl) (fun _ _ _ h => h) (v := .pointer (some ⟨s, 0, none⟩)) (.inl ⟨by rfl, fun _ => by go_simp⟩) ⟨e2, e3, t0, t1, t2, t3⟩ (fun hHeld => ?_)
    simp only [List.take_succ_cons, List.take_zero, List.drop_succ_cons, List.drop_zero, Nat.reduceSub, Act.put, List.setIfInBounds_toArray, List.set_cons_zero, List.set_cons_succ]
    refine tk 0 ?_
    refine tk 2 ?_
    refine tk 3 ?_
    refine tk 4 ?_
    refine tk 5 ?_
    refine tk 6 ?_
    refine tk 7 ?_
    refine tk 8 ?_
    refine tk 9 ?_
    refine tk 10 ?_
    refine tk 11 ?_
    refine tk 12 ?_
    refine tk 13 ?_
    refine tk 15 ?_
    refine tk 16 ?_
    refine tk 17 ?_
    refine tk 18 ?_
    refine tk 19 ?_
    refine tk 20 ?_
    refine tk 21 ?_
    refine tk 22 ?_
    refine tk 23 ?_
    refine tk 24 ?_
    refine tk 25 ?_
    refine tk 26 ?_
    refine cl 14 fun K hK => ?_
    go_simp
    go_at_call 198
    refine (spread_any W5 _ X Y lx.length cx ly.length cy lx ly p q rfl rfl (by omega) (by omega) (wX5.below (bd (b0 _) _)) (wY5.below (bd (b0 _) _)) hpl hql (bd (b0 _) _)).mono ?_
    rintro e w6 ⟨A6, c6, l6, rfl, hc6, ho6, ht6, hv6, hb6⟩
    have HV6 := Hi hv6
    clear hv6
    have hT6 := hcT5.below hb6
    have hs6 := hs5.below hb6
    have t4 := hT6.at_ 0
    have t5 := hT6.at_ 1
    have t6 := hT6.at_ 2
    have t7 := hT6.at_ 3
    have e6 := hs6.at_ 2
    have e7 := hs6.at_ 3
    simp at t4 t5 t6 t7 e6 e7
    have wX6 := wX5.below hb6
    have wY6 := wY5.below hb6
    refine hK.out _ _ ⟨e6, e7, t4, t5, t6, t7⟩ (fun hHeld => ?_)
    clear hK K
    try simp only [Act.put, List.setIfInBounds_toArray, List.set_cons_zero, List.set_cons_succ]
    refine cl 27 fun K hK => ?_
    go_simp
    go_at_call 198
    refine (spread_any w6 _ X Y lx.length cx ly.length cy lx ly u v rfl rfl (by omega) (by omega) wX6 wY6 (by omega) (by omega) (b0 _)).mono ?_
    rintro e w7 ⟨A7, c7, l7, rfl, hc7, ho7, ht7, hv7, hb7⟩
    have HV7 := Hi hv7
    clear hv7
    have hs7 := hs6.below hb7
    have hT7 := hT6.below hb7
    have d0 := hT7.at_ 0
    have d1 := hT7.at_ 1
    have d2 := hT7.at_ 2
    have d3 := hT7.at_ 3
    have e8 := hs7.at_ 2
    have e9 := hs7.at_ 3
    have e10 := hs7.at_ 4
    simp at d0 d1 d2 d3 e8 e9 e10
    have g2 := hs7.free 2
    have g3 := hs7.free 3
    have g4 := hs7.free 4
    refine hK.out _ _ ⟨e8, e9, d0, d1, d2, d3⟩ (fun hHeld => ?_)
    clear hK K
    try simp only [Act.put, List.setIfInBounds_toArray, List.set_cons_zero, List.set_cons_succ]
    refine wpAnyH_done (by kernel_rfl) ?_ _
    simp only [HT]
    go_wp2_with fail
    go_end0
    refine ⟨x, p, q, u, v, odd, A1, A6, A7, c1, c6, c7, l1, l6, l7, rfl, hTR.out, hc1, ?_, ht1, HV1.out, ?_, fun h => absurd h hly, fun _ => ⟨hc6, ?_, ht6, HV6.out, hc7, ?_, ht7, HV7.out⟩, ?_⟩
    ·exact ((((ho5.below hb6).below hb7).set1 hsl 2 _).set1 hsl 3 _).set1 hsl 4 _
    ·have h := ((hs7.set_ 2 (.slice A6 l6.length c6)).set_ 3 (.slice A7 l7.length c7)).set_ 4 (.bool (!o == odd))
     rw [neq_odd]
     simpa using h
    ·exact ((((ho6.mono hO5.size).below hb7).set1 hsl 2 _).set1 hsl 3 _).set1 hsl 4 _
    ·exact (((ho7.mono (Nat.le_trans hO5.size hb6.size)).set1 hsl 2 _).set1 hsl 3 _).set1 hsl 4 _
    ·exact ((((hO5.below hb6).below hb7).set_ (p := ⟨s, 2, none⟩) (.inl rfl) _).set_ (p := ⟨s, 3, none⟩) (.inl rfl) _).set_ (p := ⟨s, 4, none⟩) (.inl rfl) _
  ·have hyb : ((y : Int) != 0) = true := by simp; omega
   have hyb2 : ((y : Int) == 0) = false := beq_eq_false_iff_ne.2 (by omega)
   obtain ⟨c, hc⟩ : ∃ c, c = x / y := ⟨_, rfl⟩
   obtain ⟨r, hr⟩ : ∃ r, r = x % y := ⟨_, rfl⟩
   have hxe : x = c * y + r := by rw [hc, hr, Nat.mul_comm]; exact (Nat.div_add_mod x y).symm
   have hry : r < y := by rw [hr]; exact Nat.mod_lt _ hy0
   have hd1 : (x : Int) / (y : Int) = (c : Int) := by rw [hc]; simp
   have hd2 : (x : Int).tdiv (y : Int) = (c : Int) := by rw [Int.tdiv_eq_ediv_of_nonneg (by omega)]; exact hd1
   have hcx : c ≤ x := by rw [hc]; exact Nat.div_le_self _ _
   obtain ⟨m, hm⟩ : ∃ m, m = c * y := ⟨_, rfl⟩
   have hmi : (c : Int) * (y : Int) = (m : Int) := by rw [hm]; simp
   have hxm : (x : Int) - (m : Int) = (r : Int) := by omega
   have hml : m ≤ x := by omega
   have l1 := TR.le hTR.out hx0 hy0
   have hc0 : 0 < c := by rw [hc]; exact Nat.div_pos hya hy0
   have tr2 := TR.step hTR.out hxe hc0
   have l2 := TR.le' tr2 hy0
   have sstep := fun W => step_any p q u v c W (by omega) (by omega) (by omega) (by omega)
   obtain ⟨u', hu'⟩ : ∃ z, z = p + c * u := ⟨_, rfl⟩
   obtain ⟨v', hv'⟩ : ∃ z, z = q + c * v := ⟨_, rfl⟩
   rw [← hu', ← hv'] at tr2 sstep l2
   have TR2 := Hi tr2
   have SS := Hi sstep
   clear hu' hv' tr2 sstep
   have t0 := hcT.at_ 0
   have t1 := hcT.at_ 1
   have t2 := hcT.at_ 2
   have t3 := hcT.at_ 3
   simp at t0 t1 t2 t3
   clear hc hr hxe hm hc0
   go_wp2_with fail
   refine (SS.out wr).mono ?_
   rintro e w3 ⟨rfl, hb3⟩
   have hcT3 := hcT.below hb3
   have z0 := hcT3.at_ 0
   have z1 := hcT3.at_ 1
   have z2 := hcT3.at_ 2
   have z3 := hcT3.at_ 3
   simp at z0 z1 z2 z3
   have f0 := hcT3.free 0
   have f1 := hcT3.free 1
   have f2 := hcT3.free 2
   have f3 := hcT3.free 3
   have hcT4 := ((((hcT3.set_ 0 (.int .u64 (u : Int))).set_ 1 (.int .u64 (v : Int))).set_ 2 (.int .u64 (u' : Int))).set_ 3 (.int .u64 (v' : Int)))
   simp only [Array.setIfInBounds, List.size_toArray, List.length_cons, List.length_nil] at hcT4
   go_wp2_with fail
   go_roundw
   case rel =>
    refine ⟨y, r, u, v, u', v', !odd, rfl, by go_num, rfl, hy0, by omega, by omega, TR2, by omega, by omega, by simpa using hcT4, ((((hO.below hb3).set_ (.inl rfl) _).set_ (.inl rfl) _).set_ (.inl rfl) _).set_ (.inl rfl) _⟩
   case measure => simp [intOf]; omega
open Go.RowKit
variable {A : Option Addr} {a a0 b b0 cx cy p q s u v : Nat} {l : List Nat} {o odd : Bool} {w w4 : World}
def RunP (a w : World) (s a0 b0 : Nat) (lx ly : List Nat) (o : Bool) (e : Ending) (w' : World) : Prop :=
 ∃ (g p q u v : Nat) (odd : Bool) (A' B' X' Y' : Option Addr) (ca' cb' cx' cy' : Nat) (la' lx' ly' : List Nat), e = .returned (.tuple #[]) ∧ TR a0 b0 g 0 p q u v odd ∧ la'.length ≤ ca' ∧ OwnS a w' A' la' ∧ Top la' ∧ val la' = g ∧
  Cells w' s 125 #[.slice A' la'.length ca', .slice B' 0 cb', .slice X' lx'.length cx', .slice Y' ly'.length cy', .bool (o != odd)] ∧
  (ly = [] → lx' = lx ∧ ly' = ly) ∧
  (ly ≠ [] → lx'.length ≤ cx' ∧ OwnS a w' X' lx' ∧ Top lx' ∧ val lx' = val lx * p + val ly * q ∧ ly'.length ≤ cy' ∧ OwnS a w' Y' ly' ∧ Top ly' ∧ val ly' = val lx * u + val ly * v) ∧ Only s w w'
theorem FinP.run {a w w' : World} {X Y : Option Addr} {lx ly : List Nat} {e : Ending} (haw : a.heap.size ≤ w.heap.size) (h : FinP w s a0 b0 X Y cx cy lx ly o e w') : RunP a w s a0 b0 lx ly o e w' := by
 obtain ⟨g, p, q, u, v, odd, A', X', Y', ca', cx', cy', la', lx', ly', h1, h2, h3, h4, h5, h6, h7, h8, h9, h10⟩ := h
 refine ⟨g, p, q, u, v, odd, A', none, X', Y', ca', 0, cx', cy', la', lx', ly', h1, h2, h3, h4.mono haw, h5, h6, h7, fun h => ⟨(h8 h).1, (h8 h).2.1⟩, fun h => ?_, h10⟩
 obtain ⟨k1, k2, k3, k4, k5, k6, k7, k8⟩ := h9 h
 exact ⟨k1, k2.mono haw, k3, k4, k5, k6.mono haw, k7, k8⟩
theorem euc_new (W : World) (vs : Array Value) : Cells (W.alloc (.cells vs 125)) W.heap.size 125 vs := Cells.new _ _ _
theorem own_of_blk {a w : World} {g : Nat} (hg : a.heap.size ≤ g) (hb : Blk w g l) : OwnS a w (some ⟨g, 0, none⟩) l := fun _ => ⟨g, l, rfl, hg, hb, List.take_length, Nat.le_refl _⟩
end Go.Proofs.YtgljdfblgpdaaaaGreatDoor
