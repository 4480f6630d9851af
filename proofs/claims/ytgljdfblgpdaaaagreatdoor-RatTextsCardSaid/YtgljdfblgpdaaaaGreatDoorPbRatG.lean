import Derived.Test.YtgljdfblgpdaaaaGreatDoorPbRatF
set_option linter.unusedSimpArgs false
set_option linter.unusedVariables false
set_option maxRecDepth 100000
set_option maxHeartbeats 4000000
namespace Go.Proofs.YtgljdfblgpdaaaaGreatDoor
open Go.RowKit Go.Shelf
variable {A A' B B' : Option Addr} {c c' d d' : Nat} {k k' l l' : List Nat} {m m' n n' : Bool} {u v x y : Int} {w : World}
def BoxAt (w : World) (z : Int) (s : Value) (W : World) : Prop := ∃ p n A c l, s = .pointer (some ⟨p, 0, none⟩) ∧ Box2 W p (.bool n) (.slice A l.length c) ∧ IV W n A c l z ∧ w.heap.size ≤ p ∧ Below w.heap.size w W
theorem lt_add1 {i : Nat} (h : Lt i x) (k : Lt i y) : Lt (i + 1) (x + y) := by
 unfold Lt at *
 have h1 := Int.natAbs_add_le x y
 have h4 := BB_succ i
 have h5 := BB_pos i
 omega
theorem QCmp_iv (h : IV w n A c l x) (h2 : IV w m B d k y) (h3 : IV w n' A' c' l' u) (h4 : IV w m' B' d' k' v) (hx : Lt 120 x) (hy : Lt 120 y) (hu : Lt 120 u) (hv : Lt 120 v) :
  Calls Tryz.prog 42 #[.agg #[.bool n, .slice A l.length c, .bool m, .slice B k.length d], .agg #[.bool n', .slice A' l'.length c', .bool m', .slice B' k'.length d']] w fun e w' => e = .returned (.int .i64 (cmpI (x * v) (u * y))) ∧ Below w.heap.size w w' := by
 by_cases h5 : y = 1
 ·by_cases h6 : v = 1
  ·exact QCmp_11 h h2 h3 h4 hx hy hu hv ⟨h5, h6⟩
  ·exact QCmp_10 h h2 h3 h4 hx hy hu hv ⟨h5, h6⟩
 ·exact QCmp_0 h h2 h3 h4 hx hy hu hv h5
theorem QAdd_11 (h : IV w n A c l x) (h2 : IV w m B d k y) (h3 : IV w n' A' c' l' u) (h4 : IV w m' B' d' k' v) (hc1 : Can x y) (hc2 : Can u v) (hx : Lt 120 x) (hy : Lt 120 y) (hu : Lt 120 u) (hv : Lt 120 v) (ho : y = 1 ∧ v = 1) :
  Calls Tryz.prog 48 #[.agg #[.bool n, .slice A l.length c, .bool m, .slice B k.length d], .agg #[.bool n', .slice A' l'.length c', .bool m', .slice B' k'.length d']] w (RIQ w (fN (x * v + u * y) (y * v)) (fD (x * v + u * y) (y * v))) := by
 have H1 := Hi h
 have H2 := Hi h2
 have H3 := Hi h3
 have H4 := Hi h4
 have HC1 := Hi hc1
 have HC2 := Hi hc2
 have HL := Hi (And.intro hx (And.intro hy (And.intro hu hv)))
 have HO := Hi ho
 clear h h2 h3 h4 hx hy hu hv ho hc1 hc2
 obtain ⟨W1, hW1, hw1, x0, x1, x2⟩ := hdQQq w n A c l m B d k n' A' c' l' m' B' d' k'
 go_enter Tryz.func48, Tryz.ntmps48
 go_wp2_with fail
 rw [← hW1]
 clear hW1
 refine (isOne_iv (H2.out.below hw1)).mono ?_
 rintro e wa ⟨rfl, hb⟩
 replace x0 := x0.below hb
 replace x1 := x1.below hb
 replace x2 := x2.below hb
 have hw1_ := bt hw1 hb
 clear hb hw1
 rw [show decide (y = 1) = true from decide_eq_true HO.out.1]
 refine g01 ?_
 intros
 refine (isOne_iv (H4.out.below hw1_)).mono ?_
 rintro e wb ⟨rfl, hb⟩
 replace x0 := x0.below hb
 replace x1 := x1.below hb
 replace x2 := x2.below hb
 have hw2_ := bt hw1_ hb
 clear hb hw1_
 rw [show decide (v = 1) = true from decide_eq_true HO.out.2]
 refine g01 ?_
 intros
 have HLA := Hi (lt_le (lt_add HL.out.1 HL.out.2.2.1) (show 241 ≤ 2100 by decide))
 have HC := (hj x0.hc x1.hc)
 have HW := Hi hw2_
 have Gx0 := Hi x0
 have Gx1 := Hi x1
 have Gx2 := Hi x2
 clear x0 x1 x2 hw2_
 refine rg0 8 HC fun hHeld => ?_
 refine tk 0 ?_
 refine tk 1 ?_
 refine tk 2 ?_
 refine tk 3 ?_
 refine tk 5 ?_
 refine tk 6 ?_
 refine cl 4 fun K hK => ?_
 go_simp
 go_at_call 18
 refine (Add_iv (H1.out.below (bt HW.out (bw (b0 _)))) (H3.out.below (bt HW.out (bw (b0 _)))) rfl HLA.out).mono ?_
 rintro e wc1 ⟨n1, A1, c1, l1, rfl, i1, hb⟩
 have HBwc1 := Hi (bt (bw (b0 wb)) hb)
 have HI1 := Hi i1
 clear hb i1 hHeld
 refine rk hK (HC.out _ HBwc1.out) fun hHeld => ?_
 clear hK K
 refine tk 7 ?_
 refine wpAnyH_done (by kernel_rfl) ?_ _
 simp only [HT]
 clear hHeld
 have x2 := Gx2.out.below HBwc1.out
 have hw3_ := bt HW.out HBwc1.out
 have hq := f_can (can_one (x + u))
 have e1 : fN (x * v + u * y) (y * v) = x + u := by rw [HO.out.1, HO.out.2, Int.mul_one, Int.mul_one, Int.mul_one]; exact hq.1
 have e2 : fD (x * v + u * y) (y * v) = y := by rw [HO.out.1, HO.out.2, Int.mul_one, Int.mul_one, Int.mul_one]; exact hq.2
 have j1 : IV wc1 n1 A1 c1 l1 (fN (x * v + u * y) (y * v)) := by rw [e1]; exact HI1.out
 have j2 : IV wc1 m B d k (fD (x * v + u * y) (y * v)) := by rw [e2]; exact H2.out.below hw3_
 clear hq e1 e2
 obtain ⟨f0, f1, f2, f3⟩ := x2.fr
 obtain ⟨r0, r1, r2, r3⟩ := x2.cs
 go_wp2_with fail
 have z2 := x2.stored (.bool n1) (.slice A1 l1.length c1) (.bool m) (.slice B k.length d)
 obtain ⟨k0, k1, k2, k3⟩ := z2.cs
 refine bodyPost_ret (v := .agg #[.bool n1, .slice A1 l1.length c1, .bool m, .slice B k.length d]) (by simp [results, Tryz.results48, go_sem, k0, k1, k2, k3]) rfl ?_
 exact riq_store hw3_ (by omega) x2 j1 j2
theorem mad9ad {P : Prop} (h : P := by
 as_aux_lemma =>
 go_region_held3 (fun W => W.cell? ⟨w.heap.size, 0, none⟩ = some (.bool n) ∧ W.cell? ⟨w.heap.size, 1, none⟩ = some (.slice A l.length c) ∧ W.cell? ⟨w.heap.size, 2, none⟩ = some (.bool m) ∧ W.cell? ⟨w.heap.size, 3, none⟩ = some (.slice B k.length d) ∧ W.cell? ⟨w.heap.size + 1, 0, none⟩ = some (.bool n') ∧ W.cell? ⟨w.heap.size + 1, 1, none⟩ = some (.slice A' l'.length c') ∧ W.cell? ⟨w.heap.size + 1, 2, none⟩ = some (.bool m') ∧ W.cell? ⟨w.heap.size + 1, 3, none⟩ = some (.slice B' k'.length d') ∧ W.cell? ⟨wd.heap.size, 0, none⟩ = some (.bool n1) ∧ W.cell? ⟨wd.heap.size, 1, none⟩ = some (.slice A1 l1.length c1))
  ((refine HS5.out _ ?_; (repeat (first | assumption | exact b0 _ | apply ba | apply bd | apply bw | (refine bs ?_ (by first | exact Nat.le_refl _ | (dsimp only; omega) | omega) _)))))
  (first
  | (go_at_call 112; have _t := tokg; refine (over_iv (H2.out.below (bt HW.out (by repeat (first | assumption | exact b0 _ | apply ba | apply bd | apply bw)))) (HIg.out.below (by repeat (first | assumption | exact b0 _ | apply ba | apply bd | apply bw))) HG0.out).mono ?_; clear tokg _t; rintro e w6 ⟨n6, A6, c6, l6, rfl, i6, hb6⟩; obtain ⟨hcc6, hff6⟩ := bcell hb6; have hw6 := i6.ws; have hb16 : Below w1.heap.size w1 w6 := bt (by repeat (first | assumption | exact b0 _ | apply ba | apply bd | apply bw)) hb6; have sz6 := hb16.size; have sy6 := hb6.size; (try simp at sy6); (try have sw6 : w1.heap.size < w6.heap.size := by omega); (try have sv6 : w1.heap.size + 1 < w6.heap.size := by omega))
  | (go_at_call 112; refine (over_iv (H4.out.below (bt HW.out (by repeat (first | assumption | exact b0 _ | apply ba | apply bd | apply bw)))) (HIg.out.below (by repeat (first | assumption | exact b0 _ | apply ba | apply bd | apply bw))) HG0.out).mono ?_; rintro e w7 ⟨n7, A7, c7, l7, rfl, i7, hb7⟩; obtain ⟨hcc7, hff7⟩ := bcell hb7; have hw7 := i7.ws; have hb17 : Below w1.heap.size w1 w7 := bt (by repeat (first | assumption | exact b0 _ | apply ba | apply bd | apply bw)) hb7; have sz7 := hb17.size; have sy7 := hb7.size; (try simp at sy7); (try have sw7 : w1.heap.size < w7.heap.size := by omega); (try have sv7 : w1.heap.size + 1 < w7.heap.size := by omega); (try have su7 : w6.heap.size < w7.heap.size := by omega); (try have st7 : w6.heap.size + 1 < w7.heap.size := by omega); have hw67 := (hw6.below (by repeat (first | assumption | exact b0 _ | apply ba | apply bd | apply bw))).below hb7))
 all_goals (go_wp2_with fail; go_meet)
 all_goals
  have g6 := fun (p : Nat) (h : Box2 w7 p (.bool false) (.slice none 0 0)) => ws_off_box h (by simp) hw67
  have g7 := fun (p : Nat) (h : Box2 w7 p (.bool false) (.slice none 0 0)) => ws_off_box h (by simp) hw7
  have G6 := fun (p : Nat) (h : w7.heap.size ≤ p) => hw67.off h
  have G7 := fun (p : Nat) (h : w7.heap.size ≤ p) => hw7.off h
  refine ⟨_, _, rfl, rfl, n6, A6, c6, l6, n7, A7, c7, l7, ?_, ?_, ⟨i6.cap, ?_, i6.can, i6.val, i6.len⟩, ⟨i7.cap, ?_, i7.can, i7.val, i7.len⟩, ?_, ?_, ?_, ?_⟩
  ·(repeat (first
    | with_reducible exact hw67
    | with_reducible exact hw7
    | (with_reducible refine WS.below ?_ (ba (b0 _) _))
    | (with_reducible refine WS.two ?_ ?_ _ _)
    | (focus ((with_reducible refine Box2.new' ?_); (simp; done)))
    | (with_reducible refine Box2.alloc ?_ _)
    | (with_reducible refine Box2.stored' ?_ _ _)
    | (with_reducible refine Box2.far ?_ ?_ _ _)
    | (with_reducible refine Box2.below ?_ hb7)
    | (with_reducible refine Box2.below ?_ hb6)
    | exact G6 _ (by first | exact Nat.le_refl _ | omega)
    | exact G7 _ (by first | exact Nat.le_refl _ | omega)
    | (with_reducible refine g6 _ ?_)
    | (with_reducible refine g7 _ ?_)
    | omega
    | (focus (simp; done))
    | (with_reducible refine Box2.drew' ?_)))
  ·(repeat (first
    | with_reducible exact hw67
    | with_reducible exact hw7
    | (with_reducible refine WS.below ?_ (ba (b0 _) _))
    | (with_reducible refine WS.two ?_ ?_ _ _)
    | (focus ((with_reducible refine Box2.new' ?_); (simp; done)))
    | (with_reducible refine Box2.alloc ?_ _)
    | (with_reducible refine Box2.stored' ?_ _ _)
    | (with_reducible refine Box2.far ?_ ?_ _ _)
    | (with_reducible refine Box2.below ?_ hb7)
    | (with_reducible refine Box2.below ?_ hb6)
    | exact G6 _ (by first | exact Nat.le_refl _ | omega)
    | exact G7 _ (by first | exact Nat.le_refl _ | omega)
    | (with_reducible refine g6 _ ?_)
    | (with_reducible refine g7 _ ?_)
    | omega
    | (focus (simp; done))
    | (with_reducible refine Box2.drew' ?_)))
  ·(repeat (first
    | with_reducible exact hw67
    | with_reducible exact hw7
    | (with_reducible refine WS.below ?_ (ba (b0 _) _))
    | (with_reducible refine WS.two ?_ ?_ _ _)
    | (focus ((with_reducible refine Box2.new' ?_); (simp; done)))
    | (with_reducible refine Box2.alloc ?_ _)
    | (with_reducible refine Box2.stored' ?_ _ _)
    | (with_reducible refine Box2.far ?_ ?_ _ _)
    | (with_reducible refine Box2.below ?_ hb7)
    | (with_reducible refine Box2.below ?_ hb6)
    | exact G6 _ (by first | exact Nat.le_refl _ | omega)
    | exact G7 _ (by first | exact Nat.le_refl _ | omega)
    | (with_reducible refine g6 _ ?_)
    | (with_reducible refine g7 _ ?_)
    | omega
    | (focus (simp; done))
    | (with_reducible refine Box2.drew' ?_)))
  ·(repeat (first
    | with_reducible exact hw67
    | with_reducible exact hw7
    | (with_reducible refine WS.below ?_ (ba (b0 _) _))
    | (with_reducible refine WS.two ?_ ?_ _ _)
    | (focus ((with_reducible refine Box2.new' ?_); (simp; done)))
    | (with_reducible refine Box2.alloc ?_ _)
    | (with_reducible refine Box2.stored' ?_ _ _)
    | (with_reducible refine Box2.far ?_ ?_ _ _)
    | (with_reducible refine Box2.below ?_ hb7)
    | (with_reducible refine Box2.below ?_ hb6)
    | exact G6 _ (by first | exact Nat.le_refl _ | omega)
    | exact G7 _ (by first | exact Nat.le_refl _ | omega)
    | (with_reducible refine g6 _ ?_)
    | (with_reducible refine g7 _ ?_)
    | omega
    | (focus (simp; done))
    | (with_reducible refine Box2.drew' ?_)))
  ·omega
  ·omega
  ·omega
  ·repeat (first | exact hb17 | (with_reducible refine ba ?_ _) | (with_reducible refine bs ?_ ?_ _))
   all_goals (first | exact Nat.le_refl _ | (dsimp only; omega) | omega)) : P := h
theorem m18315 {P : Prop} (h : P := by
 as_aux_lemma =>
 go_region_held3 (fun W => W.cell? ⟨w.heap.size, 0, none⟩ = some (.bool n) ∧ W.cell? ⟨w.heap.size, 1, none⟩ = some (.slice A l.length c) ∧ W.cell? ⟨w.heap.size, 2, none⟩ = some (.bool m) ∧ W.cell? ⟨w.heap.size, 3, none⟩ = some (.slice B k.length d) ∧ W.cell? ⟨w.heap.size + 1, 0, none⟩ = some (.bool n') ∧ W.cell? ⟨w.heap.size + 1, 1, none⟩ = some (.slice A' l'.length c') ∧ W.cell? ⟨w.heap.size + 1, 2, none⟩ = some (.bool m') ∧ W.cell? ⟨w.heap.size + 1, 3, none⟩ = some (.slice B' k'.length d') ∧ W.cell? ⟨xxp, 0, none⟩ = some (.bool n2) ∧ W.cell? ⟨xxp, 1, none⟩ = some (.slice A2 l2.length c2) ∧ W.cell? ⟨xyp, 0, none⟩ = some (.bool n3) ∧ W.cell? ⟨xyp, 1, none⟩ = some (.slice A3 l3.length c3))
  ((refine HS5.out _ ?_; (repeat (first | assumption | exact b0 _ | apply ba | apply bd | apply bw | (refine bs ?_ (by first | exact Nat.le_refl _ | (dsimp only; omega) | omega) _)))))
  (first
  | (go_at_call 22; have _t := tok6; refine (Mul_iv (H1.out.below (bt HW.out (by repeat (first | assumption | exact b0 _ | apply ba | apply bd | apply bw)))) (HIxy.out.below (by repeat (first | assumption | exact b0 _ | apply ba | apply bd | apply bw))) rfl HM1.out).mono ?_; clear tok6 _t; rintro e w6 ⟨n6, A6, c6, l6, rfl, i6, hb6⟩; obtain ⟨hcc6, hff6⟩ := bcell hb6; have hb16 : Below we.heap.size we w6 := bt (by repeat (first | assumption | exact b0 _ | apply ba | apply bd | apply bw)) hb6; have sz6 := hb16.size; have sy6 := hb6.size; (try simp at sy6); (try have sw6 : we.heap.size < w6.heap.size := by omega); have I6 := Hi i6; clear i6)
  | (go_at_call 22; refine (Mul_iv (H3.out.below (bt HW.out (by repeat (first | assumption | exact b0 _ | apply ba | apply bd | apply bw)))) (HIxx.out.below (by repeat (first | assumption | exact b0 _ | apply ba | apply bd | apply bw))) rfl HM2.out).mono ?_; rintro e w7 ⟨n7, A7, c7, l7, rfl, i7, hb7⟩; obtain ⟨hcc7, hff7⟩ := bcell hb7; have hb17 : Below we.heap.size we w7 := bt (by repeat (first | assumption | exact b0 _ | apply ba | apply bd | apply bw)) hb7; have sz7 := hb17.size; have sy7 := hb7.size; (try simp at sy7); (try have sw7 : we.heap.size < w7.heap.size := by omega); (try have su67 : w6.heap.size < w7.heap.size := by omega); have J6_7 := Hi ((I6.out.below (by repeat (first | assumption | exact b0 _ | apply ba | apply bd | apply bw))).below hb7); have I7 := Hi i7; clear i7)
  | (go_at_call 18; refine (Add_iv (J6_7.out.below (by repeat (first | assumption | exact b0 _ | apply ba | apply bd | apply bw))) (I7.out.below (by repeat (first | assumption | exact b0 _ | apply ba | apply bd | apply bw))) rfl HLN.out).mono ?_; rintro e w8 ⟨n8, A8, c8, l8, rfl, i8, hb8⟩; obtain ⟨hcc8, hff8⟩ := bcell hb8; have hb18 : Below we.heap.size we w8 := bt (by repeat (first | assumption | exact b0 _ | apply ba | apply bd | apply bw)) hb8; have sz8 := hb18.size; have sy8 := hb8.size; (try simp at sy8); (try have sw8 : we.heap.size < w8.heap.size := by omega); (try have su68 : w6.heap.size < w8.heap.size := by omega); (try have su78 : w7.heap.size < w8.heap.size := by omega); have J6_8 := Hi ((J6_7.out.below (by repeat (first | assumption | exact b0 _ | apply ba | apply bd | apply bw))).below hb8); have J7_8 := Hi ((I7.out.below (by repeat (first | assumption | exact b0 _ | apply ba | apply bd | apply bw))).below hb8); have I8 := Hi i8; clear i8))
 all_goals (go_wp2_with fail; go_meet)
 all_goals
  have il := I8.out
  have hwl := il.ws
  have gl := fun (p : Nat) (h : Box2 w8 p (.bool false) (.slice none 0 0)) => ws_off_box h (by simp) hwl
  have Gl := fun (p : Nat) (h : w8.heap.size ≤ p) => hwl.off h
  refine ⟨_, n8, A8, c8, l8, rfl, ?_, ⟨il.cap, ?_, il.can, il.val, il.len⟩, ?_, ?_⟩
  ·(repeat (first
   | with_reducible exact hwl
   | (with_reducible refine WS.below ?_ (ba (b0 _) _))
   | (with_reducible refine WS.two ?_ ?_ _ _)
   | (focus ((with_reducible refine Box2.new' ?_); (simp; done)))
   | (with_reducible refine Box2.alloc ?_ _)
   | (with_reducible refine Box2.stored' ?_ _ _)
   | (with_reducible refine Box2.below ?_ hb8)
   | (with_reducible refine Box2.below ?_ hb7)
   | (with_reducible refine Box2.below ?_ hb6)
   | exact Gl _ (by first | exact Nat.le_refl _ | omega)
   | (with_reducible refine gl _ ?_)
   | omega
   | (focus (simp; done))
   | (with_reducible refine Box2.drew' ?_)))
  ·(repeat (first
   | with_reducible exact hwl
   | (with_reducible refine WS.below ?_ (ba (b0 _) _))
   | (with_reducible refine WS.two ?_ ?_ _ _)
   | (focus ((with_reducible refine Box2.new' ?_); (simp; done)))
   | (with_reducible refine Box2.alloc ?_ _)
   | (with_reducible refine Box2.stored' ?_ _ _)
   | (with_reducible refine Box2.below ?_ hb8)
   | (with_reducible refine Box2.below ?_ hb7)
   | (with_reducible refine Box2.below ?_ hb6)
   | exact Gl _ (by first | exact Nat.le_refl _ | omega)
   | (with_reducible refine gl _ ?_)
   | omega
   | (focus (simp; done))
   | (with_reducible refine Box2.drew' ?_)))
  ·omega
  ·repeat (first | exact hb18 | (with_reducible refine ba ?_ _) | (with_reducible refine bs ?_ ?_ _))
   all_goals (first | exact Nat.le_refl _ | (dsimp only; omega) | omega)) : P := h
theorem QAdd_10 (h : IV w n A c l x) (h2 : IV w m B d k y) (h3 : IV w n' A' c' l' u) (h4 : IV w m' B' d' k' v) (hc1 : Can x y) (hc2 : Can u v) (hx : Lt 120 x) (hy : Lt 120 y) (hu : Lt 120 u) (hv : Lt 120 v) (ho : y = 1 ∧ v ≠ 1) :
  Calls Tryz.prog 48 #[.agg #[.bool n, .slice A l.length c, .bool m, .slice B k.length d], .agg #[.bool n', .slice A' l'.length c', .bool m', .slice B' k'.length d']] w (RIQ w (fN (x * v + u * y) (y * v)) (fD (x * v + u * y) (y * v))) := by
 have H1 := Hi h
 have H2 := Hi h2
 have H3 := Hi h3
 have H4 := Hi h4
 have HC1 := Hi hc1
 have HC2 := Hi hc2
 have HL := Hi (And.intro hx (And.intro hy (And.intro hu hv)))
 have HO := Hi ho
 clear h h2 h3 h4 hx hy hu hv ho hc1 hc2
 obtain ⟨W1, hW1, hw1, x0, x1, x2⟩ := hdQQq w n A c l m B d k n' A' c' l' m' B' d' k'
 go_enter Tryz.func48, Tryz.ntmps48
 go_wp2_with fail
 rw [← hW1]
 clear hW1
 refine (isOne_iv (H2.out.below hw1)).mono ?_
 rintro e wa ⟨rfl, hb⟩
 replace x0 := x0.below hb
 replace x1 := x1.below hb
 replace x2 := x2.below hb
 have hw1_ := bt hw1 hb
 clear hb hw1
 rw [show decide (y = 1) = true from decide_eq_true HO.out.1]
 refine g01 ?_
 intros
 refine (isOne_iv (H4.out.below hw1_)).mono ?_
 rintro e wb ⟨rfl, hb⟩
 replace x0 := x0.below hb
 replace x1 := x1.below hb
 replace x2 := x2.below hb
 have hw2_ := bt hw1_ hb
 clear hb hw1_
 rw [show decide (v = 1) = false from decide_eq_false HO.out.2]
 refine g01 ?_
 intros
 have HLG : Hid (Lt 2100 ((Nat.gcd y.natAbs v.natAbs : Nat) : Int)) := Hi (lt_gcd (lt_le HL.out.2.1 (by decide)) (lt_le HL.out.2.2.2 (by decide)))
 obtain ⟨gg, hgg⟩ : ∃ g, g = ((Nat.gcd y.natAbs v.natAbs : Nat) : Int) := ⟨_, rfl⟩
 have HGE := Hi hgg
 rw [← hgg] at HLG
 clear hgg
 have HG0 : Hid (gg ≠ 0) := Hi (by have := gcd_pos' (p := y) (q := v) (by have := HC2.out.1; omega); have := HGE.out; omega)
 refine (Gcd_iv (H2.out.below hw2_) (H4.out.below hw2_) HGE.out.symm HLG.out).mono ?_
 rintro e wd ⟨n1, A1, c1, l1, rfl, i1, hb⟩
 replace x0 := x0.below hb
 replace x1 := x1.below hb
 replace x2 := x2.below hb
 have hw3_ := bt hw2_ hb
 clear hb hw2_
 have HIg := Hi i1
 clear i1
 go_upto_region 4 with fail
 obtain ⟨w1, hw⟩ : ∃ W, W = wd.alloc (.cells #[.bool n1, .slice A1 l1.length c1] 24) := ⟨_, rfl⟩
 have xg : Box2 w1 (wd.heap.size) (.bool n1) (.slice A1 l1.length c1) := by
  rw [hw]
  have h := Box2.new wd (.bool n1) (.slice A1 l1.length c1)
  exact h
 have hb : Below wd.heap.size wd w1 := by rw [hw]; exact ba (b0 _) _
 rw [← hw]
 clear hw
 replace x0 := x0.below hb
 replace x1 := x1.below hb
 replace x2 := x2.below hb
 replace HIg := Hi (HIg.out.below hb)
 have hw4_ := bt hw3_ hb
 clear hb hw3_
 have HS5 : Hid (∀ W, Below w1.heap.size w1 W → (W.cell? ⟨w.heap.size, 0, none⟩ = some (.bool n) ∧ W.cell? ⟨w.heap.size, 1, none⟩ = some (.slice A l.length c) ∧ W.cell? ⟨w.heap.size, 2, none⟩ = some (.bool m) ∧ W.cell? ⟨w.heap.size, 3, none⟩ = some (.slice B k.length d) ∧ W.cell? ⟨w.heap.size + 1, 0, none⟩ = some (.bool n') ∧ W.cell? ⟨w.heap.size + 1, 1, none⟩ = some (.slice A' l'.length c') ∧ W.cell? ⟨w.heap.size + 1, 2, none⟩ = some (.bool m') ∧ W.cell? ⟨w.heap.size + 1, 3, none⟩ = some (.slice B' k'.length d') ∧ W.cell? ⟨wd.heap.size, 0, none⟩ = some (.bool n1) ∧ W.cell? ⟨wd.heap.size, 1, none⟩ = some (.slice A1 l1.length c1))) := Hi (fun W hb => ⟨cell_below x0.cell0 hb, cell_below x0.cell1 hb, cell_below x0.cell2 hb, cell_below x0.cell3 hb, cell_below x1.cell0 hb, cell_below x1.cell1 hb, cell_below x1.cell2 hb, cell_below x1.cell3 hb, cell_below xg.cell0 hb, cell_below xg.cell1 hb⟩)
 have hxs := x0.lt
 have HW := Hi hw4_
 have hwle := hw4_.size
 have Gx0 := Hi x0
 have Gx1 := Hi x1
 have Gx2 := Hi x2
 have Gxg := Hi xg
 clear x0 x1 x2 xg hw4_
 have tokg : True := trivial
 go_cut [6, 7] (fun s t wx => PwAt w1 (y / gg) (v / gg) s t wx)
 case first =>
  exact mad9ad
 case rest =>
 obtain ⟨xxp, xyp, rfl, rfl, hpw⟩ := hcut
 obtain ⟨we, hwn⟩ : ∃ v, v = wc := ⟨_, rfl⟩
 rw [← hwn] at hpw ⊢
 clear hwn wc
 obtain ⟨n2, A2, c2, l2, n3, A3, c3, l3, xx, xy, ia_, ib_, hne_, _, _, hb⟩ := hpw
 have HIxx := Hi ia_
 have HIxy := Hi ib_
 have x0 := Gx0.out.below hb
 have x1 := Gx1.out.below hb
 have x2 := Gx2.out.below hb
 have xg := Gxg.out.below hb
 replace HIg := Hi (HIg.out.below hb)
 have hw5_ := bt HW.out hb
 clear ia_ ib_ hne_ hb HS5 HW hxs hwle Gx0 Gx1 Gx2 Gxg tokg
 have HM1 := Hi (lt_mul HL.out.1 (lt_ediv (y := gg) HL.out.2.2.2))
 have HM2 := Hi (lt_mul HL.out.2.2.1 (lt_ediv (y := gg) HL.out.2.1))
 have HLN := Hi (lt_le (lt_add1 HM1.out HM2.out) (show 241 ≤ 2100 by decide))
 replace HM1 := Hi (lt_le HM1.out (show 240 ≤ 2100 by decide))
 replace HM2 := Hi (lt_le HM2.out (show 240 ≤ 2100 by decide))
 go_upto_region 5 with fail
 have HS5 : Hid (∀ W, Below we.heap.size we W → (W.cell? ⟨w.heap.size, 0, none⟩ = some (.bool n) ∧ W.cell? ⟨w.heap.size, 1, none⟩ = some (.slice A l.length c) ∧ W.cell? ⟨w.heap.size, 2, none⟩ = some (.bool m) ∧ W.cell? ⟨w.heap.size, 3, none⟩ = some (.slice B k.length d) ∧ W.cell? ⟨w.heap.size + 1, 0, none⟩ = some (.bool n') ∧ W.cell? ⟨w.heap.size + 1, 1, none⟩ = some (.slice A' l'.length c') ∧ W.cell? ⟨w.heap.size + 1, 2, none⟩ = some (.bool m') ∧ W.cell? ⟨w.heap.size + 1, 3, none⟩ = some (.slice B' k'.length d') ∧ W.cell? ⟨xxp, 0, none⟩ = some (.bool n2) ∧ W.cell? ⟨xxp, 1, none⟩ = some (.slice A2 l2.length c2) ∧ W.cell? ⟨xyp, 0, none⟩ = some (.bool n3) ∧ W.cell? ⟨xyp, 1, none⟩ = some (.slice A3 l3.length c3))) := Hi (fun W hb => ⟨cell_below x0.cell0 hb, cell_below x0.cell1 hb, cell_below x0.cell2 hb, cell_below x0.cell3 hb, cell_below x1.cell0 hb, cell_below x1.cell1 hb, cell_below x1.cell2 hb, cell_below x1.cell3 hb, cell_below xx.cell0 hb, cell_below xx.cell1 hb, cell_below xy.cell0 hb, cell_below xy.cell1 hb⟩)
 have HW := Hi hw5_
 have hxs := x0.lt
 have hwle := hw5_.size
 have Gx0 := Hi x0
 have Lx0 := Hi x0.lt
 have Gx1 := Hi x1
 have Lx1 := Hi x1.lt
 have Gx2 := Hi x2
 have Lx2 := Hi x2.lt
 have Gxg := Hi xg
 have Lxg := Hi xg.lt
 have Gxx := Hi xx
 have Lxx := Hi xx.lt
 have Gxy := Hi xy
 have Lxy := Hi xy.lt
 clear x0 x1 x2 xg xx xy hw5_
 have tok6 : True := trivial
 go_cut [8] (fun s wx => BoxAt we (x * (v / gg) + u * (y / gg)) s wx)
 case first =>
  exact m18315
 case rest =>
 obtain ⟨xnp, n4, A4, c4, l4, rfl, xn, ia_, hge_, hb⟩ := hcut
 obtain ⟨wf, hwn⟩ : ∃ v, v = wc := ⟨_, rfl⟩
 rw [← hwn] at xn ia_ hb ⊢
 clear hwn wc
 have HIxn := Hi ia_
 have Nx0 : Hid ((w.heap.size) ≠ xnp) := Hi (by have := Lx0.out; omega)
 have x0 := Gx0.out.below hb
 have Nx1 : Hid ((w.heap.size + 1) ≠ xnp) := Hi (by have := Lx1.out; omega)
 have x1 := Gx1.out.below hb
 have Nx2 : Hid ((w.heap.size + 1 + 1) ≠ xnp) := Hi (by have := Lx2.out; omega)
 have x2 := Gx2.out.below hb
 have Nxg : Hid ((wd.heap.size) ≠ xnp) := Hi (by have := Lxg.out; omega)
 have xg := Gxg.out.below hb
 have Nxx : Hid ((xxp) ≠ xnp) := Hi (by have := Lxx.out; omega)
 have xx := Gxx.out.below hb
 have Nxy : Hid ((xyp) ≠ xnp) := Hi (by have := Lxy.out; omega)
 have xy := Gxy.out.below hb
 replace HIg := Hi (HIg.out.below hb)
 replace HIxx := Hi (HIxx.out.below hb)
 replace HIxy := Hi (HIxy.out.below hb)
 have xnge : w.heap.size ≤ xnp := by omega
 have hw6_ := bt HW.out hb
 clear ia_ hb hge_ HS5 HW hxs hwle Gx0 Lx0 Gx1 Lx1 Gx2 Lx2 Gxg Lxg Gxx Lxx Gxy Lxy tok6
 refine gnigi ?_
 intros
 obtain ⟨nn, hnn⟩ : ∃ z, z = x * (v / gg) + u * (y / gg) := ⟨_, rfl⟩
 have HNN := Hi hnn
 rw [← hnn] at HIxn
 clear hnn
 refine (cancel_iv HIxn.out HIg.out (.inr HG0.out)).mono ?_
 rintro e wg ⟨n5, A5, c5, l5, n6, A6, c6, l6, rfl, i5, i6, hb⟩
 replace x0 := x0.below hb
 replace x1 := x1.below hb
 replace x2 := x2.below hb
 replace xg := xg.below hb
 replace xx := xx.below hb
 replace xy := xy.below hb
 replace xn := xn.below hb
 replace HIg := Hi (HIg.out.below hb)
 replace HIxx := Hi (HIxx.out.below hb)
 replace HIxy := Hi (HIxy.out.below hb)
 replace HIxn := Hi (HIxn.out.below hb)
 have hw7_ := bt hw6_ hb
 clear hb hw6_
 have HI5 := Hi i5
 have HI6 := Hi i6
 clear i5 i6
 obtain ⟨Cn0, Cn1⟩ := xn.cs
 have fn0 := xn.free 0
 have fn1 := xn.free 1
 have hxnl := xn.lt
 have hxnn := Nat.ne_of_lt hxnl
 go_upto_region 7 with fail
 clear Cn0 Cn1
 obtain ⟨wh, hw⟩ : ∃ W, W = (wg.setCell ⟨xnp, 0, none⟩ (.bool n5)).setCell ⟨xnp, 1, none⟩ (.slice A5 l5.length c5) := ⟨_, rfl⟩
 rw [← hw]
 have HI5 := Hi (show IV wh n5 A5 c5 l5 _ by rw [hw]; exact HI5.out.two xn _ _)
 have HI6 := Hi (show IV wh n6 A6 c6 l6 _ by rw [hw]; exact HI6.out.two xn _ _)
 have HIxx := Hi (show IV wh n2 A2 c2 l2 _ by rw [hw]; exact HIxx.out.two xn _ _)
 have HIxy := Hi (show IV wh n3 A3 c3 l3 _ by rw [hw]; exact HIxy.out.two xn _ _)
 have x2 := (show Box4 wh _ _ _ _ _ by rw [hw]; exact x2.far2 Nx2.out _ _)
 have xx := (show Box2 wh _ _ _ by rw [hw]; exact xx.far Nxx.out _ _)
 have xy := (show Box2 wh _ _ _ by rw [hw]; exact xy.far Nxy.out _ _)
 have hwh : Below w.heap.size w wh := by rw [hw]; exact b2 hw7_ (by omega) _ _
 have xn := (show Box2 wh xnp (.bool n5) (.slice A5 l5.length c5) by rw [hw]; exact xn.stored _ _)
 have hsz : wh.heap.size = wg.heap.size := by rw [hw]; simp [World.setCell]
 clear hw fn0 fn1 hxnl hxnn
 obtain ⟨wi, hw⟩ : ∃ W, W = wh.alloc (.cells #[.bool n6, .slice A6 l6.length c6] 24) := ⟨_, rfl⟩
 have xr : Box2 wi (wh.heap.size) (.bool n6) (.slice A6 l6.length c6) := by
  rw [hw]
  have h := Box2.new wh (.bool n6) (.slice A6 l6.length c6)
  exact h
 have hb : Below wh.heap.size wh wi := by rw [hw]; exact ba (b0 _) _
 rw [← hw]
 clear hw
 replace x2 := x2.below hb
 replace xx := xx.below hb
 replace xy := xy.below hb
 replace xn := xn.below hb
 replace HI5 := Hi (HI5.out.below hb)
 replace HI6 := Hi (HI6.out.below hb)
 replace HIxx := Hi (HIxx.out.below hb)
 replace HIxy := Hi (HIxy.out.below hb)
 have hw8_ := bt hwh hb
 clear hb hwh
 rw [hsz] at xr
 clear hsz
 have HQ := Hi (add_q HC1.out HC2.out HGE.out rfl rfl HNN.out rfl)
 have HLM := Hi (lt_le (lt_mul (lt_ediv (y := gg) HL.out.2.1) (lt_ediv (y := gg) HL.out.2.2.2)) (show 240 ≤ 2100 by decide))
 have HLD : Hid (Lt 2100 (y / gg * (v / gg) * (gg / ((Nat.gcd nn.natAbs gg.natAbs : Nat) : Int)))) := Hi (by
  rw [HQ.out.2]
  have h1 := fD_abs (p := x * v + u * y) (q := y * v) (Int.mul_ne_zero (by have := HC1.out.1; omega) (by have := HC2.out.1; omega))
  have h2 := lt_le (lt_mul HL.out.2.1 HL.out.2.2.2) (show 240 ≤ 2100 by decide)
  exact Nat.lt_of_le_of_lt h1 h2)
 go_wp2_with fail
 have HC := (hj xn.hc (hj xx.hc (hj xy.hc xr.hc)))
 have HW := Hi hw8_
 have Gx2 := Hi x2
 have Gxx := Hi xx
 have Gxy := Hi xy
 have Gxn := Hi xn
 have Gxr := Hi xr
 clear x2 xx xy xn xr hw8_
 refine rg0 7 HC fun hHeld => ?_
 refine tk 0 ?_
 refine tk 1 ?_
 refine tk 2 ?_
 refine tk 4 ?_
 refine cl 3 fun K hK => ?_
 go_simp
 go_at_call 22
 refine (Mul_iv (HIxx.out.below (bw (b0 _))) (HIxy.out.below (bw (b0 _))) rfl HLM.out).mono ?_
 rintro e wj ⟨n7, A7, c7, l7, rfl, i7, hb⟩
 have HBwj := Hi (bt (bw (b0 wi)) hb)
 have HI7 := Hi i7
 clear hb i7 hHeld
 refine rk hK (HC.out _ HBwj.out) fun hHeld => ?_
 clear hK K
 refine cl 5 fun K hK => ?_
 go_simp
 go_at_call 22
 refine (Mul_iv HI7.out (HI6.out.below HBwj.out) rfl HLD.out).mono ?_
 rintro e wk ⟨n8, A8, c8, l8, rfl, i8, hb⟩
 have HBwk := Hi (bt HBwj.out hb)
 have HI8 := Hi i8
 clear hb i8 hHeld
 refine rk hK (HC.out _ HBwk.out) fun hHeld => ?_
 clear hK K
 refine tk 6 ?_
 refine wpAnyH_done (by kernel_rfl) ?_ _
 simp only [HT]
 clear hHeld
 have x2 := Gx2.out.below HBwk.out
 replace HI5 := Hi (HI5.out.below HBwk.out)
 replace HI6 := Hi (HI6.out.below HBwk.out)
 replace HIxx := Hi (HIxx.out.below HBwk.out)
 replace HIxy := Hi (HIxy.out.below HBwk.out)
 have hw9_ := bt HW.out HBwk.out
 have j1 := HI5.out
 have j2 := HI8.out
 rw [HQ.out.1] at j1
 rw [HQ.out.2] at j2
 obtain ⟨f0, f1, f2, f3⟩ := x2.fr
 obtain ⟨r0, r1, r2, r3⟩ := x2.cs
 go_wp2_with fail
 have z2 := x2.stored (.bool n5) (.slice A5 l5.length c5) (.bool n8) (.slice A8 l8.length c8)
 obtain ⟨k0, k1, k2, k3⟩ := z2.cs
 refine bodyPost_ret (v := .agg #[.bool n5, .slice A5 l5.length c5, .bool n8, .slice A8 l8.length c8]) (by simp [results, Tryz.results48, go_sem, k0, k1, k2, k3]) rfl ?_
 exact riq_store hw9_ (by omega) x2 j1 j2
theorem QAdd_0 (h : IV w n A c l x) (h2 : IV w m B d k y) (h3 : IV w n' A' c' l' u) (h4 : IV w m' B' d' k' v) (hc1 : Can x y) (hc2 : Can u v) (hx : Lt 120 x) (hy : Lt 120 y) (hu : Lt 120 u) (hv : Lt 120 v) (ho : y ≠ 1) :
  Calls Tryz.prog 48 #[.agg #[.bool n, .slice A l.length c, .bool m, .slice B k.length d], .agg #[.bool n', .slice A' l'.length c', .bool m', .slice B' k'.length d']] w (RIQ w (fN (x * v + u * y) (y * v)) (fD (x * v + u * y) (y * v))) := by
 have H1 := Hi h
 have H2 := Hi h2
 have H3 := Hi h3
 have H4 := Hi h4
 have HC1 := Hi hc1
 have HC2 := Hi hc2
 have HL := Hi (And.intro hx (And.intro hy (And.intro hu hv)))
 have HO := Hi ho
 clear h h2 h3 h4 hx hy hu hv ho hc1 hc2
 obtain ⟨W1, hW1, hw1, x0, x1, x2⟩ := hdQQq w n A c l m B d k n' A' c' l' m' B' d' k'
 go_enter Tryz.func48, Tryz.ntmps48
 go_wp2_with fail
 rw [← hW1]
 clear hW1
 refine (isOne_iv (H2.out.below hw1)).mono ?_
 rintro e wa ⟨rfl, hb⟩
 replace x0 := x0.below hb
 replace x1 := x1.below hb
 replace x2 := x2.below hb
 have hw1_ := bt hw1 hb
 clear hb hw1
 rw [show decide (y = 1) = false from decide_eq_false HO.out]
 refine g01 ?_
 intros
 have HLG : Hid (Lt 2100 ((Nat.gcd y.natAbs v.natAbs : Nat) : Int)) := Hi (lt_gcd (lt_le HL.out.2.1 (by decide)) (lt_le HL.out.2.2.2 (by decide)))
 obtain ⟨gg, hgg⟩ : ∃ g, g = ((Nat.gcd y.natAbs v.natAbs : Nat) : Int) := ⟨_, rfl⟩
 have HGE := Hi hgg
 rw [← hgg] at HLG
 clear hgg
 have HG0 : Hid (gg ≠ 0) := Hi (by have := gcd_pos' (p := y) (q := v) (by have := HC2.out.1; omega); have := HGE.out; omega)
 refine (Gcd_iv (H2.out.below hw1_) (H4.out.below hw1_) HGE.out.symm HLG.out).mono ?_
 rintro e wd ⟨n1, A1, c1, l1, rfl, i1, hb⟩
 replace x0 := x0.below hb
 replace x1 := x1.below hb
 replace x2 := x2.below hb
 have hw2_ := bt hw1_ hb
 clear hb hw1_
 have HIg := Hi i1
 clear i1
 go_upto_region 4 with fail
 obtain ⟨w1, hw⟩ : ∃ W, W = wd.alloc (.cells #[.bool n1, .slice A1 l1.length c1] 24) := ⟨_, rfl⟩
 have xg : Box2 w1 (wd.heap.size) (.bool n1) (.slice A1 l1.length c1) := by
  rw [hw]
  have h := Box2.new wd (.bool n1) (.slice A1 l1.length c1)
  exact h
 have hb : Below wd.heap.size wd w1 := by rw [hw]; exact ba (b0 _) _
 rw [← hw]
 clear hw
 replace x0 := x0.below hb
 replace x1 := x1.below hb
 replace x2 := x2.below hb
 replace HIg := Hi (HIg.out.below hb)
 have hw3_ := bt hw2_ hb
 clear hb hw2_
 have HS5 : Hid (∀ W, Below w1.heap.size w1 W → (W.cell? ⟨w.heap.size, 0, none⟩ = some (.bool n) ∧ W.cell? ⟨w.heap.size, 1, none⟩ = some (.slice A l.length c) ∧ W.cell? ⟨w.heap.size, 2, none⟩ = some (.bool m) ∧ W.cell? ⟨w.heap.size, 3, none⟩ = some (.slice B k.length d) ∧ W.cell? ⟨w.heap.size + 1, 0, none⟩ = some (.bool n') ∧ W.cell? ⟨w.heap.size + 1, 1, none⟩ = some (.slice A' l'.length c') ∧ W.cell? ⟨w.heap.size + 1, 2, none⟩ = some (.bool m') ∧ W.cell? ⟨w.heap.size + 1, 3, none⟩ = some (.slice B' k'.length d') ∧ W.cell? ⟨wd.heap.size, 0, none⟩ = some (.bool n1) ∧ W.cell? ⟨wd.heap.size, 1, none⟩ = some (.slice A1 l1.length c1))) := Hi (fun W hb => ⟨cell_below x0.cell0 hb, cell_below x0.cell1 hb, cell_below x0.cell2 hb, cell_below x0.cell3 hb, cell_below x1.cell0 hb, cell_below x1.cell1 hb, cell_below x1.cell2 hb, cell_below x1.cell3 hb, cell_below xg.cell0 hb, cell_below xg.cell1 hb⟩)
 have hxs := x0.lt
 have HW := Hi hw3_
 have hwle := hw3_.size
 have Gx0 := Hi x0
 have Gx1 := Hi x1
 have Gx2 := Hi x2
 have Gxg := Hi xg
 clear x0 x1 x2 xg hw3_
 have tokg : True := trivial
 go_cut [6, 7] (fun s t wx => PwAt w1 (y / gg) (v / gg) s t wx)
 case first =>
  exact mad9ad
 case rest =>
 obtain ⟨xxp, xyp, rfl, rfl, hpw⟩ := hcut
 obtain ⟨we, hwn⟩ : ∃ v, v = wc := ⟨_, rfl⟩
 rw [← hwn] at hpw ⊢
 clear hwn wc
 obtain ⟨n2, A2, c2, l2, n3, A3, c3, l3, xx, xy, ia_, ib_, hne_, _, _, hb⟩ := hpw
 have HIxx := Hi ia_
 have HIxy := Hi ib_
 have x0 := Gx0.out.below hb
 have x1 := Gx1.out.below hb
 have x2 := Gx2.out.below hb
 have xg := Gxg.out.below hb
 replace HIg := Hi (HIg.out.below hb)
 have hw4_ := bt HW.out hb
 clear ia_ ib_ hne_ hb HS5 HW hxs hwle Gx0 Gx1 Gx2 Gxg tokg
 have HM1 := Hi (lt_mul HL.out.1 (lt_ediv (y := gg) HL.out.2.2.2))
 have HM2 := Hi (lt_mul HL.out.2.2.1 (lt_ediv (y := gg) HL.out.2.1))
 have HLN := Hi (lt_le (lt_add1 HM1.out HM2.out) (show 241 ≤ 2100 by decide))
 replace HM1 := Hi (lt_le HM1.out (show 240 ≤ 2100 by decide))
 replace HM2 := Hi (lt_le HM2.out (show 240 ≤ 2100 by decide))
 go_upto_region 5 with fail
 have HS5 : Hid (∀ W, Below we.heap.size we W → (W.cell? ⟨w.heap.size, 0, none⟩ = some (.bool n) ∧ W.cell? ⟨w.heap.size, 1, none⟩ = some (.slice A l.length c) ∧ W.cell? ⟨w.heap.size, 2, none⟩ = some (.bool m) ∧ W.cell? ⟨w.heap.size, 3, none⟩ = some (.slice B k.length d) ∧ W.cell? ⟨w.heap.size + 1, 0, none⟩ = some (.bool n') ∧ W.cell? ⟨w.heap.size + 1, 1, none⟩ = some (.slice A' l'.length c') ∧ W.cell? ⟨w.heap.size + 1, 2, none⟩ = some (.bool m') ∧ W.cell? ⟨w.heap.size + 1, 3, none⟩ = some (.slice B' k'.length d') ∧ W.cell? ⟨xxp, 0, none⟩ = some (.bool n2) ∧ W.cell? ⟨xxp, 1, none⟩ = some (.slice A2 l2.length c2) ∧ W.cell? ⟨xyp, 0, none⟩ = some (.bool n3) ∧ W.cell? ⟨xyp, 1, none⟩ = some (.slice A3 l3.length c3))) := Hi (fun W hb => ⟨cell_below x0.cell0 hb, cell_below x0.cell1 hb, cell_below x0.cell2 hb, cell_below x0.cell3 hb, cell_below x1.cell0 hb, cell_below x1.cell1 hb, cell_below x1.cell2 hb, cell_below x1.cell3 hb, cell_below xx.cell0 hb, cell_below xx.cell1 hb, cell_below xy.cell0 hb, cell_below xy.cell1 hb⟩)
 have HW := Hi hw4_
 have hxs := x0.lt
 have hwle := hw4_.size
 have Gx0 := Hi x0
 have Lx0 := Hi x0.lt
 have Gx1 := Hi x1
 have Lx1 := Hi x1.lt
 have Gx2 := Hi x2
 have Lx2 := Hi x2.lt
 have Gxg := Hi xg
 have Lxg := Hi xg.lt
 have Gxx := Hi xx
 have Lxx := Hi xx.lt
 have Gxy := Hi xy
 have Lxy := Hi xy.lt
 clear x0 x1 x2 xg xx xy hw4_
 have tok6 : True := trivial
 go_cut [8] (fun s wx => BoxAt we (x * (v / gg) + u * (y / gg)) s wx)
 case first =>
  exact m18315
 case rest =>
 obtain ⟨xnp, n4, A4, c4, l4, rfl, xn, ia_, hge_, hb⟩ := hcut
 obtain ⟨wf, hwn⟩ : ∃ v, v = wc := ⟨_, rfl⟩
 rw [← hwn] at xn ia_ hb ⊢
 clear hwn wc
 have HIxn := Hi ia_
 have Nx0 : Hid ((w.heap.size) ≠ xnp) := Hi (by have := Lx0.out; omega)
 have x0 := Gx0.out.below hb
 have Nx1 : Hid ((w.heap.size + 1) ≠ xnp) := Hi (by have := Lx1.out; omega)
 have x1 := Gx1.out.below hb
 have Nx2 : Hid ((w.heap.size + 1 + 1) ≠ xnp) := Hi (by have := Lx2.out; omega)
 have x2 := Gx2.out.below hb
 have Nxg : Hid ((wd.heap.size) ≠ xnp) := Hi (by have := Lxg.out; omega)
 have xg := Gxg.out.below hb
 have Nxx : Hid ((xxp) ≠ xnp) := Hi (by have := Lxx.out; omega)
 have xx := Gxx.out.below hb
 have Nxy : Hid ((xyp) ≠ xnp) := Hi (by have := Lxy.out; omega)
 have xy := Gxy.out.below hb
 replace HIg := Hi (HIg.out.below hb)
 replace HIxx := Hi (HIxx.out.below hb)
 replace HIxy := Hi (HIxy.out.below hb)
 have xnge : w.heap.size ≤ xnp := by omega
 have hw5_ := bt HW.out hb
 clear ia_ hb hge_ HS5 HW hxs hwle Gx0 Lx0 Gx1 Lx1 Gx2 Lx2 Gxg Lxg Gxx Lxx Gxy Lxy tok6
 refine gnigi ?_
 intros
 obtain ⟨nn, hnn⟩ : ∃ z, z = x * (v / gg) + u * (y / gg) := ⟨_, rfl⟩
 have HNN := Hi hnn
 rw [← hnn] at HIxn
 clear hnn
 refine (cancel_iv HIxn.out HIg.out (.inr HG0.out)).mono ?_
 rintro e wg ⟨n5, A5, c5, l5, n6, A6, c6, l6, rfl, i5, i6, hb⟩
 replace x0 := x0.below hb
 replace x1 := x1.below hb
 replace x2 := x2.below hb
 replace xg := xg.below hb
 replace xx := xx.below hb
 replace xy := xy.below hb
 replace xn := xn.below hb
 replace HIg := Hi (HIg.out.below hb)
 replace HIxx := Hi (HIxx.out.below hb)
 replace HIxy := Hi (HIxy.out.below hb)
 replace HIxn := Hi (HIxn.out.below hb)
 have hw6_ := bt hw5_ hb
 clear hb hw5_
 have HI5 := Hi i5
 have HI6 := Hi i6
 clear i5 i6
 obtain ⟨Cn0, Cn1⟩ := xn.cs
 have fn0 := xn.free 0
 have fn1 := xn.free 1
 have hxnl := xn.lt
 have hxnn := Nat.ne_of_lt hxnl
 go_upto_region 7 with fail
 clear Cn0 Cn1
 obtain ⟨wh, hw⟩ : ∃ W, W = (wg.setCell ⟨xnp, 0, none⟩ (.bool n5)).setCell ⟨xnp, 1, none⟩ (.slice A5 l5.length c5) := ⟨_, rfl⟩
 rw [← hw]
 have HI5 := Hi (show IV wh n5 A5 c5 l5 _ by rw [hw]; exact HI5.out.two xn _ _)
 have HI6 := Hi (show IV wh n6 A6 c6 l6 _ by rw [hw]; exact HI6.out.two xn _ _)
 have HIxx := Hi (show IV wh n2 A2 c2 l2 _ by rw [hw]; exact HIxx.out.two xn _ _)
 have HIxy := Hi (show IV wh n3 A3 c3 l3 _ by rw [hw]; exact HIxy.out.two xn _ _)
 have x2 := (show Box4 wh _ _ _ _ _ by rw [hw]; exact x2.far2 Nx2.out _ _)
 have xx := (show Box2 wh _ _ _ by rw [hw]; exact xx.far Nxx.out _ _)
 have xy := (show Box2 wh _ _ _ by rw [hw]; exact xy.far Nxy.out _ _)
 have hwh : Below w.heap.size w wh := by rw [hw]; exact b2 hw6_ (by omega) _ _
 have xn := (show Box2 wh xnp (.bool n5) (.slice A5 l5.length c5) by rw [hw]; exact xn.stored _ _)
 have hsz : wh.heap.size = wg.heap.size := by rw [hw]; simp [World.setCell]
 clear hw fn0 fn1 hxnl hxnn
 obtain ⟨wi, hw⟩ : ∃ W, W = wh.alloc (.cells #[.bool n6, .slice A6 l6.length c6] 24) := ⟨_, rfl⟩
 have xr : Box2 wi (wh.heap.size) (.bool n6) (.slice A6 l6.length c6) := by
  rw [hw]
  have h := Box2.new wh (.bool n6) (.slice A6 l6.length c6)
  exact h
 have hb : Below wh.heap.size wh wi := by rw [hw]; exact ba (b0 _) _
 rw [← hw]
 clear hw
 replace x2 := x2.below hb
 replace xx := xx.below hb
 replace xy := xy.below hb
 replace xn := xn.below hb
 replace HI5 := Hi (HI5.out.below hb)
 replace HI6 := Hi (HI6.out.below hb)
 replace HIxx := Hi (HIxx.out.below hb)
 replace HIxy := Hi (HIxy.out.below hb)
 have hw7_ := bt hwh hb
 clear hb hwh
 rw [hsz] at xr
 clear hsz
 have HQ := Hi (add_q HC1.out HC2.out HGE.out rfl rfl HNN.out rfl)
 have HLM := Hi (lt_le (lt_mul (lt_ediv (y := gg) HL.out.2.1) (lt_ediv (y := gg) HL.out.2.2.2)) (show 240 ≤ 2100 by decide))
 have HLD : Hid (Lt 2100 (y / gg * (v / gg) * (gg / ((Nat.gcd nn.natAbs gg.natAbs : Nat) : Int)))) := Hi (by
  rw [HQ.out.2]
  have h1 := fD_abs (p := x * v + u * y) (q := y * v) (Int.mul_ne_zero (by have := HC1.out.1; omega) (by have := HC2.out.1; omega))
  have h2 := lt_le (lt_mul HL.out.2.1 HL.out.2.2.2) (show 240 ≤ 2100 by decide)
  exact Nat.lt_of_le_of_lt h1 h2)
 go_wp2_with fail
 have HC := (hj xn.hc (hj xx.hc (hj xy.hc xr.hc)))
 have HW := Hi hw7_
 have Gx2 := Hi x2
 have Gxx := Hi xx
 have Gxy := Hi xy
 have Gxn := Hi xn
 have Gxr := Hi xr
 clear x2 xx xy xn xr hw7_
 refine rg0 7 HC fun hHeld => ?_
 refine tk 0 ?_
 refine tk 1 ?_
 refine tk 2 ?_
 refine tk 4 ?_
 refine cl 3 fun K hK => ?_
 go_simp
 go_at_call 22
 refine (Mul_iv (HIxx.out.below (bw (b0 _))) (HIxy.out.below (bw (b0 _))) rfl HLM.out).mono ?_
 rintro e wj ⟨n7, A7, c7, l7, rfl, i7, hb⟩
 have HBwj := Hi (bt (bw (b0 wi)) hb)
 have HI7 := Hi i7
 clear hb i7 hHeld
 refine rk hK (HC.out _ HBwj.out) fun hHeld => ?_
 clear hK K
 refine cl 5 fun K hK => ?_
 go_simp
 go_at_call 22
 refine (Mul_iv HI7.out (HI6.out.below HBwj.out) rfl HLD.out).mono ?_
 rintro e wk ⟨n8, A8, c8, l8, rfl, i8, hb⟩
 have HBwk := Hi (bt HBwj.out hb)
 have HI8 := Hi i8
 clear hb i8 hHeld
 refine rk hK (HC.out _ HBwk.out) fun hHeld => ?_
 clear hK K
 refine tk 6 ?_
 refine wpAnyH_done (by kernel_rfl) ?_ _
 simp only [HT]
 clear hHeld
 have x2 := Gx2.out.below HBwk.out
 replace HI5 := Hi (HI5.out.below HBwk.out)
 replace HI6 := Hi (HI6.out.below HBwk.out)
 replace HIxx := Hi (HIxx.out.below HBwk.out)
 replace HIxy := Hi (HIxy.out.below HBwk.out)
 have hw8_ := bt HW.out HBwk.out
 have j1 := HI5.out
 have j2 := HI8.out
 rw [HQ.out.1] at j1
 rw [HQ.out.2] at j2
 obtain ⟨f0, f1, f2, f3⟩ := x2.fr
 obtain ⟨r0, r1, r2, r3⟩ := x2.cs
 go_wp2_with fail
 have z2 := x2.stored (.bool n5) (.slice A5 l5.length c5) (.bool n8) (.slice A8 l8.length c8)
 obtain ⟨k0, k1, k2, k3⟩ := z2.cs
 refine bodyPost_ret (v := .agg #[.bool n5, .slice A5 l5.length c5, .bool n8, .slice A8 l8.length c8]) (by simp [results, Tryz.results48, go_sem, k0, k1, k2, k3]) rfl ?_
 exact riq_store hw8_ (by omega) x2 j1 j2
theorem QAdd_iv (h : IV w n A c l x) (h2 : IV w m B d k y) (h3 : IV w n' A' c' l' u) (h4 : IV w m' B' d' k' v) (hc1 : Can x y) (hc2 : Can u v) (hx : Lt 120 x) (hy : Lt 120 y) (hu : Lt 120 u) (hv : Lt 120 v) :
  Calls Tryz.prog 48 #[.agg #[.bool n, .slice A l.length c, .bool m, .slice B k.length d], .agg #[.bool n', .slice A' l'.length c', .bool m', .slice B' k'.length d']] w (RIQ w (fN (x * v + u * y) (y * v)) (fD (x * v + u * y) (y * v))) := by
 by_cases h5 : y = 1
 ·by_cases h6 : v = 1
  ·exact QAdd_11 h h2 h3 h4 hc1 hc2 hx hy hu hv ⟨h5, h6⟩
  ·exact QAdd_10 h h2 h3 h4 hc1 hc2 hx hy hu hv ⟨h5, h6⟩
 ·exact QAdd_0 h h2 h3 h4 hc1 hc2 hx hy hu hv h5
end Go.Proofs.YtgljdfblgpdaaaaGreatDoor
