import Derived.Test.YtgljdfblgpdaaaaGreatDoorPbRefV
import Derived.Test.YtgljdfblgpdaaaaGreatDoorPbSimB
set_option linter.unusedSimpArgs false
set_option linter.unusedVariables false
set_option maxRecDepth 100000
set_option maxHeartbeats 4000000
namespace Go.Proofs.YtgljdfblgpdaaaaGreatDoor
variable {l : List Nat}
def LM (l : List Nat) : Nat := l.foldr Nat.lcm 1
theorem LM_nil : LM [] = 1 := rfl
theorem LM_cons (x : Nat) (l : List Nat) : LM (x :: l) = Nat.lcm x (LM l) := rfl
theorem LM_one (x : Nat) : LM [x] = x := Nat.lcm_one_right x
theorem LM_append (l k : List Nat) : LM (l ++ k) = Nat.lcm (LM l) (LM k) := by
 induction l with
 | nil => rw [List.nil_append, LM_nil, Nat.lcm_one_left]
 | cons x l ih => rw [List.cons_append, LM_cons, LM_cons, ih, Nat.lcm_assoc]
theorem LM_pos (h : ∀ x ∈ l, 0 < x) : 0 < LM l := by
 induction l with
 | nil => rw [LM_nil]; decide
 | cons y l ih =>
  rw [LM_cons]
  exact Nat.lcm_pos (h y (by simp)) (ih fun x hx => h x (by simp [hx]))
theorem lcm_le (a b : Nat) : Nat.lcm a b ≤ a * b := Nat.div_le_self _ _
theorem LM_bound {e : Nat} (h : ∀ x ∈ l, x < 2 ^ e) (h0 : ∀ x ∈ l, 0 < x) : LM l ≤ 2 ^ (e * l.length) := by
 induction l with
 | nil => rw [LM_nil, List.length_nil, Nat.mul_zero]; decide
 | cons y l ih =>
  rw [LM_cons, List.length_cons, Nat.mul_succ, Nat.pow_add, Nat.mul_comm]
  refine Nat.le_trans (lcm_le ..) ?_
  exact Nat.mul_le_mul (Nat.le_of_lt (h y (by simp))) (ih (fun x hx => h x (by simp [hx])) (fun x hx => h0 x (by simp [hx])))
theorem lcm_half (a b : Nat) : a / Nat.gcd a b * b = Nat.lcm a b := by
 unfold Nat.lcm
 rw [Nat.mul_comm a b, Nat.mul_div_assoc _ (Nat.gcd_dvd_left a b), Nat.mul_comm]
open Go.RowKit Go.Shelf
variable {W : World} {b off : Nat} {zs : List Nat}
def IL (W : World) (A : Option Addr) (zs : List Nat) : Prop :=
 zs ≠ [] → ∃ b off, A = some ⟨b, off, none⟩ ∧ b < W.heap.size ∧ ∀ i, i < zs.length → ∃ n B d k, W.cell? ⟨b, off + i * 2, none⟩ = some (.bool n) ∧ W.cell? ⟨b, off + i * 2 + 1, none⟩ = some (.slice B (List.length k) d) ∧ IV W n B d k ((zs.getD i 0 : Nat) : Int)
theorem IL.below {W W' : World} {A : Option Addr} (h : IL W A zs) (hb : Below W.heap.size W W') : IL W' A zs := fun h0 => by
 obtain ⟨b, off, e, hl, hi⟩ := h h0
 refine ⟨b, off, e, Nat.lt_of_lt_of_le hl hb.size, fun i hi2 => ?_⟩
 obtain ⟨n, B, d, k, e1, e2, iv⟩ := hi i hi2
 exact ⟨n, B, d, k, (hb.cell (p := ⟨b, _, none⟩) hl).trans e1, (hb.cell (p := ⟨b, _, none⟩) hl).trans e2, iv.below hb⟩
theorem lm_0 (w : World) (A : Option Addr) (c : Nat) :
  Calls Tryz.prog 118 #[.slice A 0 c] w (RIV w 1) := by
 obtain ⟨W1, hW1, hw1, x0⟩ := hdi w
 go_enter Tryz.func118, Tryz.ntmps118
 go_wp2_with fail
 rw [← hW1]
 clear hW1
 go_wp2_with fail
 refine (Of_iv _ 1 (by decide) (by decide)).mono ?_
 rintro e w2 ⟨n1, A1, c1, l1, rfl, i1, hb⟩
 replace x0 := x0.below hb
 have hw1_ := bt hw1 hb
 clear hb hw1
 have J1 := Hi i1
 clear i1
 have f0 := x0.free 0
 have r0 := x0.cell0
 have f1 := x0.free 1
 have r1 := x0.cell1
 go_wp2_with fail
 have z2 := x0.back (.bool n1) (.slice A1 l1.length c1)
 obtain ⟨k0, k1, k2⟩ := z2
 refine bodyPost_ret (v := .agg #[.bool n1, .slice A1 l1.length c1]) (by simp [results, Tryz.results118, go_sem, k0, k1, k2]) rfl ?_
 exact ⟨n1, A1, c1, l1, rfl, (J1.out).two x0 _ _, b2 hw1_ (by omega) _ _⟩
theorem lm_1 (w : World) (b off c : Nat) (n : Bool) (B : Option Addr) (d : Nat) (k : List Nat) {x : Int} (hbl : b < w.heap.size) (e0 : w.cell? ⟨b, off, none⟩ = some (.bool n)) (e1 : w.cell? ⟨b, off + 1, none⟩ = some (.slice B k.length d)) (h1 : IV w n B d k x) :
  Calls Tryz.prog 118 #[.slice (some ⟨b, off, none⟩) 1 c] w (RIV w x) := by
 have H1 := Hi h1
 clear h1
 have q0 := ((ba (b0 w) (.cells #[.bool false, .slice none 0 0] 24)).cell (p := ⟨b, off, none⟩) hbl).trans e0
 have q1 := ((ba (b0 w) (.cells #[.bool false, .slice none 0 0] 24)).cell (p := ⟨b, off + 1, none⟩) hbl).trans e1
 clear e0 e1
 go_enter Tryz.func118, Tryz.ntmps118
 go_wp2_with fail
 have z := Box2.new w (.bool n) (.slice B k.length d)
 obtain ⟨z0, z1⟩ := z.cs
 refine bodyPost_ret (v := .agg #[.bool n, .slice B k.length d]) (by simp [results, Tryz.results118, go_sem, z0, z1]) rfl ?_
 exact ⟨n, B, d, k, rfl, H1.out.below (ba (b0 _) _), ba (b0 _) _⟩
theorem lm_2 (w : World) (b off c L hN : Nat) {X Y : Int} (h : 2 ≤ L) (hm : L ≤ 20) (hc : L ≤ c) (hh : hN = L / 2)
  (hA : ∀ W, Below w.heap.size w W → Calls Tryz.prog 118 #[.slice (some ⟨b, off, none⟩) hN c] W (RIV W X))
  (hB : ∀ W, Below w.heap.size w W → Calls Tryz.prog 118 #[.slice (some ⟨b, off + hN * 2, none⟩) (L - hN) (c - hN)] W (RIV W Y)) (hx : 0 < X) (hy : 0 < Y) (hlt : Lt 2100 (X / ((Nat.gcd X.natAbs Y.natAbs : Nat) : Int) * Y)) :
  Calls Tryz.prog 118 #[.slice (some ⟨b, off, none⟩) L c] w (RIV w (X / ((Nat.gcd X.natAbs Y.natAbs : Nat) : Int) * Y)) := by
 have HA := Hi hA
 have HB := Hi hB
 have HX := Hi hx
 have HY := Hi hy
 have HLT := Hi hlt
 clear hA hB hx hy hlt
 have h0 : ((L : Int) == 0) = false := beq_eq_false_iff_ne.2 (by omega)
 have h1 : ((L : Int) == 1) = false := beq_eq_false_iff_ne.2 (by omega)
 have HC := Hi hc
 have HH := Hi hh
 have HM := Hi (And.intro h hm)
 clear hc hh h hm
 obtain ⟨W1, hW1, hw1, x0⟩ := hdi w
 go_enter Tryz.func118, Tryz.ntmps118
 go_wp2_with fail
 rw [← hW1]
 clear hW1
 have hd : (L : Int) / 2 = (hN : Int) := by have := HH.out; omega
 rw [hd]
 have hLN := HH.out
 have h2 := HM.out.1
 have hLc := HC.out
 have g1 : (0 : Int) ≤ (hN : Int) := by omega
 have g2 : (hN : Int) ≤ (L : Int) := by omega
 have g3 : (hN : Int) ≤ (c : Int) := by omega
 have g4 : (L : Int) ≤ (c : Int) := by omega
 have g5 : ¬ (hN : Int) < 0 := by omega
 have g6 : ¬ c = hN := by omega
 have g7 : ¬ ((c : Int) = (hN : Int)) := by omega
 have hwr : wrap64 (hN : Int) = (hN : Int) := by have := HM.out.2; unfold wrap64; omega
 try rw [hwr]
 clear hd hLN h2 hLc h0 h1
 obtain ⟨w1, hww⟩ : ∃ v, v = W1 := ⟨_, rfl⟩
 rw [← hww] at x0 hw1 ⊢
 clear hww W1
 have HS5 : Hid (∀ W, Below w1.heap.size w1 W → (True)) := Hi (fun W hb => trivial)
 have hxs := x0.lt
 have HW := Hi hw1
 have hwle := hw1.size
 have Gx0 := Hi x0
 clear x0 hw1
 have tokg : True := trivial
 go_cut [4, 5] (fun s t wx => PwAt w1 (X) (Y) s t wx)
 case first =>
  as_aux_lemma =>
  go_region_held3 (fun W => True)
   ((refine HS5.out _ ?_; (repeat (first | assumption | exact b0 _ | apply ba | apply bd | apply bw | (refine bs ?_ (by first | exact Nat.le_refl _ | (dsimp only; omega) | omega) _)))))
   (first
   | (go_at_call 118; have _t := tokg; refine (HA.out _ (bt HW.out (by repeat (first | assumption | exact b0 _ | apply ba | apply bd | apply bw)))).mono ?_; clear tokg _t; rintro e w6 ⟨n6, A6, c6, l6, rfl, i6, hb6⟩; obtain ⟨hcc6, hff6⟩ := bcell hb6; have hw6 := i6.ws; have hb16 : Below w1.heap.size w1 w6 := bt (by repeat (first | assumption | exact b0 _ | apply ba | apply bd | apply bw)) hb6; have sz6 := hb16.size; have sy6 := hb6.size; (try simp at sy6); (try have sw6 : w1.heap.size < w6.heap.size := by omega); (try have sv6 : w1.heap.size + 1 < w6.heap.size := by omega))
   | (go_at_call 118; refine (HB.out _ (bt HW.out (by repeat (first | assumption | exact b0 _ | apply ba | apply bd | apply bw)))).mono ?_; rintro e w7 ⟨n7, A7, c7, l7, rfl, i7, hb7⟩; obtain ⟨hcc7, hff7⟩ := bcell hb7; have hw7 := i7.ws; have hb17 : Below w1.heap.size w1 w7 := bt (by repeat (first | assumption | exact b0 _ | apply ba | apply bd | apply bw)) hb7; have sz7 := hb17.size; have sy7 := hb7.size; (try simp at sy7); (try have sw7 : w1.heap.size < w7.heap.size := by omega); (try have sv7 : w1.heap.size + 1 < w7.heap.size := by omega); (try have su7 : w6.heap.size < w7.heap.size := by omega); (try have st7 : w6.heap.size + 1 < w7.heap.size := by omega); have hw67 := (hw6.below (by repeat (first | assumption | exact b0 _ | apply ba | apply bd | apply bw))).below hb7))
  all_goals (go_wp2_with fail; go_meet)
  all_goals
   have g6 := fun (p : Nat) (h : Box2 w7 p (.bool false) (.slice none 0 0)) => ws_off_box h (by simp) hw67
   have g7 := fun (p : Nat) (h : Box2 w7 p (.bool false) (.slice none 0 0)) => ws_off_box h (by simp) hw7
   have G6 := fun (p : Nat) (h : w7.heap.size ≤ p) => hw67.off h
   have G7 := fun (p : Nat) (h : w7.heap.size ≤ p) => hw7.off h
   refine ⟨_, _, rfl, rfl, n6, A6, c6, l6, n7, A7, c7, l7, ?_, ?_, ⟨i6.cap, ?_, i6.can, i6.val, i6.len⟩, ⟨i7.cap, ?_, i7.can, i7.val, i7.len⟩, ?_, ?_, ?_, ?_⟩
   ·(repeat (first
     | with_reducible exact hw67
     | with_reducible exact hw7
     | (with_reducible refine WS.below ?_ (ba (b0 _) _))
     | (with_reducible refine WS.two ?_ ?_ _ _)
     | (focus ((with_reducible refine Box2.new' ?_); (simp; done)))
     | (with_reducible refine Box2.alloc ?_ _)
     | (with_reducible refine Box2.stored' ?_ _ _)
     | (with_reducible refine Box2.far ?_ ?_ _ _)
     | (with_reducible refine Box2.below ?_ hb7)
     | (with_reducible refine Box2.below ?_ hb6)
     | exact G6 _ (by first | exact Nat.le_refl _ | omega)
     | exact G7 _ (by first | exact Nat.le_refl _ | omega)
     | (with_reducible refine g6 _ ?_)
     | (with_reducible refine g7 _ ?_)
     | omega
     | (focus (simp; done))
     | (with_reducible refine Box2.drew' ?_)))
   ·(repeat (first
     | with_reducible exact hw67
     | with_reducible exact hw7
     | (with_reducible refine WS.below ?_ (ba (b0 _) _))
     | (with_reducible refine WS.two ?_ ?_ _ _)
     | (focus ((with_reducible refine Box2.new' ?_); (simp; done)))
     | (with_reducible refine Box2.alloc ?_ _)
     | (with_reducible refine Box2.stored' ?_ _ _)
     | (with_reducible refine Box2.far ?_ ?_ _ _)
     | (with_reducible refine Box2.below ?_ hb7)
     | (with_reducible refine Box2.below ?_ hb6)
     | exact G6 _ (by first | exact Nat.le_refl _ | omega)
     | exact G7 _ (by first | exact Nat.le_refl _ | omega)
     | (with_reducible refine g6 _ ?_)
     | (with_reducible refine g7 _ ?_)
     | omega
     | (focus (simp; done))
     | (with_reducible refine Box2.drew' ?_)))
   ·(repeat (first
     | with_reducible exact hw67
     | with_reducible exact hw7
     | (with_reducible refine WS.below ?_ (ba (b0 _) _))
     | (with_reducible refine WS.two ?_ ?_ _ _)
     | (focus ((with_reducible refine Box2.new' ?_); (simp; done)))
     | (with_reducible refine Box2.alloc ?_ _)
     | (with_reducible refine Box2.stored' ?_ _ _)
     | (with_reducible refine Box2.far ?_ ?_ _ _)
     | (with_reducible refine Box2.below ?_ hb7)
     | (with_reducible refine Box2.below ?_ hb6)
     | exact G6 _ (by first | exact Nat.le_refl _ | omega)
     | exact G7 _ (by first | exact Nat.le_refl _ | omega)
     | (with_reducible refine g6 _ ?_)
     | (with_reducible refine g7 _ ?_)
     | omega
     | (focus (simp; done))
     | (with_reducible refine Box2.drew' ?_)))
   ·(repeat (first
     | with_reducible exact hw67
     | with_reducible exact hw7
     | (with_reducible refine WS.below ?_ (ba (b0 _) _))
     | (with_reducible refine WS.two ?_ ?_ _ _)
     | (focus ((with_reducible refine Box2.new' ?_); (simp; done)))
     | (with_reducible refine Box2.alloc ?_ _)
     | (with_reducible refine Box2.stored' ?_ _ _)
     | (with_reducible refine Box2.far ?_ ?_ _ _)
     | (with_reducible refine Box2.below ?_ hb7)
     | (with_reducible refine Box2.below ?_ hb6)
     | exact G6 _ (by first | exact Nat.le_refl _ | omega)
     | exact G7 _ (by first | exact Nat.le_refl _ | omega)
     | (with_reducible refine g6 _ ?_)
     | (with_reducible refine g7 _ ?_)
     | omega
     | (focus (simp; done))
     | (with_reducible refine Box2.drew' ?_)))
   ·omega
   ·omega
   ·omega
   ·repeat (first | exact hb17 | (with_reducible refine ba ?_ _) | (with_reducible refine bs ?_ ?_ _))
    all_goals (first | exact Nat.le_refl _ | (dsimp only; omega) | omega)
 case rest =>
 obtain ⟨pap, pbp, rfl, rfl, hpw⟩ := hcut
 obtain ⟨wp, hwn⟩ : ∃ v, v = wc := ⟨_, rfl⟩
 rw [← hwn] at hpw ⊢
 clear hwn wc
 obtain ⟨n5, A5, c5, l5, n6, A6, c6, l6, pa, pb, ia_, ib_, hne_, _, _, hb⟩ := hpw
 have HIpa := Hi ia_
 have HIpb := Hi ib_
 have x0 := Gx0.out.below hb
 have hw1_ := bt HW.out hb
 clear ia_ ib_ hne_ hb HS5 HW hxs hwle Gx0 tokg
 obtain ⟨c_pa_0, c_pa_1⟩ := pa.cs
 obtain ⟨c_pb_0, c_pb_1⟩ := pb.cs
 go_wp2_with fail
 refine (cancel_iv HIpa.out HIpb.out (.inl (by have := HX.out; omega))).mono ?_
 rintro e wq ⟨n7, A7, c7, l7, n8, A8, c8, l8, rfl, i7, i8, hb⟩
 clear c_pa_0 c_pa_1 c_pb_0 c_pb_1
 replace x0 := x0.below hb
 replace pa := pa.below hb
 replace pb := pb.below hb
 replace HIpa := Hi (HIpa.out.below hb)
 replace HIpb := Hi (HIpb.out.below hb)
 have hw2_ := bt hw1_ hb
 clear hb hw1_
 have J7 := Hi i7
 clear i7 i8
 go_upto_region 9 with fail
 obtain ⟨wr, hw⟩ : ∃ W, W = (wq.alloc (.cells #[.bool n7, .slice A7 l7.length c7] 24)).alloc (.cells #[.bool n8, .slice A8 l8.length c8] 24) := ⟨_, rfl⟩
 have xr : Box2 wr (wq.heap.size) (.bool n7) (.slice A7 l7.length c7) := by
  rw [hw]
  have h := Box2.new wq (.bool n7) (.slice A7 l7.length c7)
  exact (h.alloc _)
 have xs : Box2 wr (wq.heap.size + 1) (.bool n8) (.slice A8 l8.length c8) := by
  rw [hw]
  have h := Box2.new (wq.alloc (.cells #[.bool n7, .slice A7 l7.length c7] 24)) (.bool n8) (.slice A8 l8.length c8)
  rw [World.size_alloc] at h
  exact h
 have hb : Below wq.heap.size wq wr := by rw [hw]; exact ba (ba (b0 _) _) _
 rw [← hw]
 clear hw
 replace x0 := x0.below hb
 replace pa := pa.below hb
 replace pb := pb.below hb
 replace HIpa := Hi (HIpa.out.below hb)
 replace HIpb := Hi (HIpb.out.below hb)
 replace J7 := Hi (J7.out.below hb)
 have hw3_ := bt hw2_ hb
 clear hb hw2_
 obtain ⟨Cr0, Cr1⟩ := xr.cs
 obtain ⟨c_pb_0, c_pb_1⟩ := pb.cs
 go_wp2_with fail
 refine (Mul_iv J7.out HIpb.out rfl HLT.out).mono ?_
 rintro e wt ⟨n9, A9, c9, l9, rfl, i9, hb⟩
 clear Cr0 Cr1 c_pb_0 c_pb_1
 replace x0 := x0.below hb
 replace pa := pa.below hb
 replace pb := pb.below hb
 replace xr := xr.below hb
 replace xs := xs.below hb
 replace HIpa := Hi (HIpa.out.below hb)
 replace HIpb := Hi (HIpb.out.below hb)
 replace J7 := Hi (J7.out.below hb)
 have hw4_ := bt hw3_ hb
 clear hb hw3_
 have J9 := Hi i9
 clear i9
 have f0 := x0.free 0
 have r0 := x0.cell0
 have f1 := x0.free 1
 have r1 := x0.cell1
 go_wp2_with fail
 have z2 := x0.back (.bool n9) (.slice A9 l9.length c9)
 obtain ⟨k0, k1, k2⟩ := z2
 refine bodyPost_ret (v := .agg #[.bool n9, .slice A9 l9.length c9]) (by simp [results, Tryz.results118, go_sem, k0, k1, k2]) rfl ?_
 exact ⟨n9, A9, c9, l9, rfl, (J9.out).two x0 _ _, b2 hw4_ (by omega) _ _⟩
theorem IL.take (h : IL W (some ⟨b, off, none⟩) zs) (k : Nat) : IL W (some ⟨b, off, none⟩) (zs.take k) := fun h0 => by
 have h1 : zs ≠ [] := by rintro rfl; simp at h0
 obtain ⟨b', off', e, hl, hi⟩ := h h1
 refine ⟨b', off', e, hl, fun i hi2 => ?_⟩
 rw [List.length_take] at hi2
 obtain ⟨n, B, d, q, e1, e2, iv⟩ := hi i (by omega)
 refine ⟨n, B, d, q, e1, e2, ?_⟩
 rw [List.getD_eq_getElem?_getD, List.getElem?_take, if_pos (by omega), ← List.getD_eq_getElem?_getD]
 exact iv
theorem IL.drop (h : IL W (some ⟨b, off, none⟩) zs) (k : Nat) : IL W (some ⟨b, off + k * 2, none⟩) (zs.drop k) := fun h0 => by
 have h1 : zs ≠ [] := by rintro rfl; simp at h0
 obtain ⟨b', off', e, hl, hi⟩ := h h1
 injection e with e
 injection e with e1 e2
 subst e1 e2
 refine ⟨_, _, rfl, hl, fun i hi2 => ?_⟩
 rw [List.length_drop] at hi2
 obtain ⟨n, B, d, q, e1, e2, iv⟩ := hi (k + i) (by omega)
 refine ⟨n, B, d, q, ?_, ?_, ?_⟩
 ·rw [← e1]; congr 2; omega
 ·rw [← e2]; congr 2; omega
 ·rw [List.getD_eq_getElem?_getD, List.getElem?_drop, ← List.getD_eq_getElem?_getD]
  exact iv
theorem lm_iv : ∀ (N : Nat) (zs : List Nat), zs.length ≤ N → ∀ (w : World) (A : Option Addr) (c : Nat), IL w A zs → zs.length ≤ c → zs.length ≤ 20 → (∀ z ∈ zs, 0 < z ∧ z < 2 ^ 320) →
  Calls Tryz.prog 118 #[.slice A zs.length c] w (RIV w ((LM zs : Nat) : Int)) := by
 intro N
 induction N with
 | zero =>
  intro zs hN w A c _ _ _ _
  obtain rfl := List.eq_nil_of_length_eq_zero (Nat.le_zero.1 hN)
  exact lm_0 w A c
 | succ N ih =>
  intro zs hN w A c hI hc hm hz
  match zs, hN, hI, hc, hm, hz with
  | [], _, _, _, _, _ => exact lm_0 w A c
  | [z], _, hI, _, _, _ =>
   obtain ⟨b, off, rfl, hbl, hi⟩ := hI (by simp)
   obtain ⟨n, B, d, k, e1, e2, iv⟩ := hi 0 (by simp)
   rw [LM_one]
   exact lm_1 w b off c n B d k hbl (by simpa using e1) (by simpa using e2) iv
  | z1 :: z2 :: r, hN, hI, hc, hm, hz =>
   obtain ⟨zs, hzs⟩ : ∃ zs, zs = z1 :: z2 :: r := ⟨_, rfl⟩
   have hL : 2 ≤ zs.length := by rw [hzs]; simp
   rw [← hzs] at hN hI hc hm hz ⊢
   have hne : zs ≠ [] := by rw [hzs]; simp
   obtain ⟨b, off, rfl, hbl, _⟩ := hI hne
   obtain ⟨h, hh⟩ : ∃ h, h = zs.length / 2 := ⟨_, rfl⟩
   have ht : (zs.take h).length = h := by rw [List.length_take]; omega
   have hd : (zs.drop h).length = zs.length - h := List.length_drop ..
   have pt : 0 < LM (zs.take h) := LM_pos fun x hx => (hz x (List.mem_of_mem_take hx)).1
   have pd : 0 < LM (zs.drop h) := LM_pos fun x hx => (hz x (List.mem_of_mem_drop hx)).1
   have hv : ((LM (zs.take h) : Nat) : Int) / ((Nat.gcd ((LM (zs.take h) : Nat) : Int).natAbs ((LM (zs.drop h) : Nat) : Int).natAbs : Nat) : Int) * ((LM (zs.drop h) : Nat) : Int) = ((LM zs : Nat) : Int) := by
    rw [Int.natAbs_natCast, Int.natAbs_natCast, ← Int.natCast_ediv, ← Int.natCast_mul, lcm_half, ← LM_append, List.take_append_drop]
   have hlt : Lt 2100 ((LM zs : Nat) : Int) := by
    have h1 := LM_bound (e := 320) (fun x hx => (hz x hx).2) (fun x hx => (hz x hx).1)
    unfold Lt
    obtain ⟨E, hE⟩ : ∃ E, E = 32 * 2100 := ⟨_, rfl⟩
    rw [Int.natAbs_natCast, bb_pow2, ← hE]
    exact Nat.lt_of_le_of_lt h1 (Nat.pow_lt_pow_right (by decide) (by omega))
   have r2 := lm_2 w b off c zs.length h (X := ((LM (zs.take h) : Nat) : Int)) (Y := ((LM (zs.drop h) : Nat) : Int)) hL hm hc hh
    (fun W hW => by
     have q := ih (zs.take h) (by omega) W (some ⟨b, off, none⟩) c ((hI.take h).below hW) (by omega) (by omega) (fun z hz2 => hz z (List.mem_of_mem_take hz2))
     rw [ht] at q
     exact q)
    (fun W hW => by
     have q := ih (zs.drop h) (by omega) W (some ⟨b, off + h * 2, none⟩) (c - h) ((hI.drop h).below hW) (by omega) (by omega) (fun z hz2 => hz z (List.mem_of_mem_drop hz2))
     rw [hd] at q
     exact q)
    (by omega) (by omega) (by rw [hv]; exact hlt)
   rw [hv] at r2
   exact r2
open Go.RowKit Go.Shelf
variable {A : Option Addr} {D N j : Nat} {W W' : World} {l : List Nat}
def QAt (W : World) (b off : Nat) (x y : Int) : Prop :=
 ∃ n A c l m B d k, W.cell? ⟨b, off, none⟩ = some (.bool n) ∧ W.cell? ⟨b, off + 1, none⟩ = some (.slice A (List.length l) c) ∧ W.cell? ⟨b, off + 2, none⟩ = some (.bool m) ∧ W.cell? ⟨b, off + 3, none⟩ = some (.slice B (List.length k) d) ∧ IV W n A c l x ∧ IV W m B d k y
theorem QAt.below {b off : Nat} {x y : Int} (h : QAt W b off x y) (hb : Below W.heap.size W W') (hl : b < W.heap.size) : QAt W' b off x y := by
 obtain ⟨n, A, c, l, m, B, d, k, e0, e1, e2, e3, i1, i2⟩ := h
 exact ⟨n, A, c, l, m, B, d, k, (hb.cell (p := ⟨b, _, none⟩) hl).trans e0, (hb.cell (p := ⟨b, _, none⟩) hl).trans e1, (hb.cell (p := ⟨b, _, none⟩) hl).trans e2, (hb.cell (p := ⟨b, _, none⟩) hl).trans e3, i1.below hb, i2.below hb⟩
def QL (W : World) (A : Option Addr) (zs : List (Int × Int)) : Prop :=
 zs ≠ [] → ∃ b off, A = some ⟨b, off, none⟩ ∧ b < W.heap.size ∧ ∀ i, i < zs.length → QAt W b (off + i * 4) (zs.getD i (0, 0)).1 (zs.getD i (0, 0)).2
theorem QL.below {zs : List (Int × Int)} (h : QL W A zs) (hb : Below W.heap.size W W') : QL W' A zs := fun h0 => by
 obtain ⟨b, off, e, hl, hi⟩ := h h0
 exact ⟨b, off, e, Nat.lt_of_lt_of_le hl hb.size, fun i hi2 => (hi i hi2).below hb hl⟩
theorem run_mkI (N : Int) (n : Nat) (hN : N = n) (hn : n ≤ 1000) (w : World) :
  (Instr.makeSlice 54 (.int .i64 N) (.int .i64 N)).run Tryz.prog w = .ok (.slice (some ⟨w.heap.size, 0, none⟩) n n) (w.alloc (.cells (madeCells (Value.agg #[.bool false, .slice none 0 0]).cells (n * 2)) 24)) := by
 subst hN
 obtain ⟨i, hi, hz, hs, hb⟩ := info_parts info_I
 have h := run_make (P := Tryz.prog) w 54 24 i (.agg #[.bool false, .slice none 0 0]) (by kernel_rfl) hi hz .i64 .i64 n n (by omega) (by omega) (by rw [hb]; omega) (by omega)
 rw [Int.toNat_natCast, hs] at h
 rw [h]
theorem noint_made (n : Nat) : NoInt (madeCells (Value.agg #[.bool false, .slice none 0 0]).cells n) := by
 intro j k x e
 have hj : j < (madeCells (Value.agg #[.bool false, .slice none 0 0]).cells n).size := (Array.getElem?_eq_some_iff.1 e).1
 rw [Array.getElem?_eq_getElem hj] at e
 injection e with e
 simp only [madeCells, Value.cells] at e
 have h2 : j % 2 = 0 ∨ j % 2 = 1 := by omega
 rcases h2 with h2 | h2 <;> simp [h2] at e
theorem noint_set {cur : Array Value} (h : NoInt cur) (i : Nat) (v : Value) (hv : ∀ k x, v ≠ .int k x) : NoInt (cur.setIfInBounds i v) := by
 intro j k x e
 rw [Array.getElem?_setIfInBounds] at e
 split at e
 ·split at e
  ·injection e with e; exact hv _ _ e
  ·cases e
 ·exact h _ _ _ e
def CL (W : World) (D N : Nat) (ys : List Int) (j : Nat) : Prop :=
 ∃ cur, Cells W D 24 cur ∧ cur.size = N * 2 ∧ NoInt cur ∧ ∀ i, i < j → ∃ n B d k, cur[i * 2]? = some (Value.bool n) ∧ cur[i * 2 + 1]? = some (.slice B (List.length k) d) ∧ IV W n B d k (ys.getD i 0)
theorem CL.below {ys : List Int} (h : CL W D N ys j) (hb : Below W.heap.size W W') : CL W' D N ys j := by
 obtain ⟨cur, hc, hs, hn, hi⟩ := h
 refine ⟨cur, hc.below hb, hs, hn, fun i hij => ?_⟩
 obtain ⟨n, B, d, k, e1, e2, iv⟩ := hi i hij
 exact ⟨n, B, d, k, e1, e2, iv.below hb⟩
theorem ws_off_noint {cur : Array Value} (h : WS W A l) (hc : Cells W D 24 cur) (hn : NoInt cur) : Off A l D := by
 intro hl b off e
 obtain ⟨b', off', e', _, hx⟩ := h.2 hl
 rw [e] at e'
 injection e' with e'
 injection e' with e1 e2
 subst e1 e2
 rintro rfl
 have h1 := hx 0 (List.length_pos_iff.2 hl)
 rw [Nat.add_zero, Cells.at_ hc off] at h1
 exact hn _ _ _ h1
theorem CL.iv {W : World} {D N : Nat} {ys : List Int} {j : Nat} (h : CL W D N ys j) {n : Bool} {A : Option Addr} {c : Nat} {l : List Nat} {z : Int} (hi : IV W n A c l z) (a b : Nat) (u v : Value) : IV ((W.setCell ⟨D, a, none⟩ u).setCell ⟨D, b, none⟩ v) n A c l z := by
 obtain ⟨cur, hc, hs, hn, _⟩ := h
 have hO : Only D W ((W.setCell ⟨D, a, none⟩ u).setCell ⟨D, b, none⟩ v) := ((only_refl D W).set_ (.inl rfl) _).set_ (.inl rfl) _
 exact ⟨hi.cap, hi.ws.only hO (ws_off_noint hi.ws hc hn), hi.can, hi.val, hi.len⟩
theorem CL.cells {ys : List Int} (h : CL W D N ys j) {i : Nat} (hi : i < N) : (∃ u, W.cell? ⟨D, i * 2, none⟩ = some u) ∧ (∃ u, W.cell? ⟨D, i * 2 + 1, none⟩ = some u) ∧ W.frozen? ⟨D, i * 2, none⟩ = false ∧ W.frozen? ⟨D, i * 2 + 1, none⟩ = false := by
 obtain ⟨cur, hc, hs, hn, _⟩ := h
 exact ⟨⟨_, (Cells.at_ hc _).trans (Array.getElem?_eq_getElem (by omega))⟩, ⟨_, (Cells.at_ hc _).trans (Array.getElem?_eq_getElem (by omega))⟩, Cells.free hc _, Cells.free hc _⟩
theorem CL.put {ys : List Int} (h : CL W D N ys j) (hj : j < N) {n : Bool} {c : Nat} (hi : IV W n A c l (ys.getD j 0)) : CL ((W.setCell ⟨D, j * 2, none⟩ (.bool n)).setCell ⟨D, j * 2 + 1, none⟩ (.slice A l.length c)) D N ys (j + 1) := by
 have hiv := @CL.iv W D N ys j h
 obtain ⟨cur, hc, hs, hn, hx⟩ := h
 refine ⟨(cur.setIfInBounds (j * 2) (.bool n)).setIfInBounds (j * 2 + 1) (.slice A l.length c), Cells.set_ (Cells.set_ hc _ _) _ _, by simp [hs], noint_set (noint_set hn _ _ (fun _ _ e => by cases e)) _ _ (fun _ _ e => by cases e), fun i hij => ?_⟩
 rcases Nat.lt_or_ge i j with h1 | h1
 ·obtain ⟨n', B, d, k, e1, e2, iv⟩ := hx i h1
  refine ⟨n', B, d, k, ?_, ?_, hiv iv _ _ _ _⟩
  ·rw [Array.getElem?_setIfInBounds_ne (by omega), Array.getElem?_setIfInBounds_ne (by omega)]; exact e1
  ·rw [Array.getElem?_setIfInBounds_ne (by omega), Array.getElem?_setIfInBounds_ne (by omega)]; exact e2
 ·obtain rfl : i = j := by omega
  refine ⟨n, A, c, l, ?_, ?_, hiv hi _ _ _ _⟩
  ·rw [Array.getElem?_setIfInBounds_ne (by omega), Array.getElem?_setIfInBounds_self_of_lt (by omega)]
  ·rw [Array.getElem?_setIfInBounds_self_of_lt (by simp; omega)]
theorem CL.il {ys : List Int} {ds : List Nat} (h : CL W D ds.length ys ds.length) (hy : ∀ i, i < ds.length → ys.getD i 0 = ((ds.getD i 0 : Nat) : Int)) : IL W (some ⟨D, 0, none⟩) ds := fun h0 => by
 obtain ⟨cur, hc, hs, hn, hx⟩ := h
 refine ⟨D, 0, rfl, hc.lt, fun i hi => ?_⟩
 obtain ⟨n, B, d, k, e1, e2, iv⟩ := hx i hi
 refine ⟨n, B, d, k, ?_, ?_, by rw [← hy i hi]; exact iv⟩
 ·rw [Nat.zero_add]; exact (Cells.at_ hc _).trans e1
 ·rw [Nat.zero_add]; exact (Cells.at_ hc _).trans e2
theorem CL.two {ys : List Int} (h : CL W D N ys j) {p : Nat} {u : Bool} {B : Option Addr} {k d : Nat} (hb : Box2 W p (.bool u) (.slice B k d)) (hne : D ≠ p) (x y : Value) : CL ((W.setCell ⟨p, 0, none⟩ x).setCell ⟨p, 1, none⟩ y) D N ys j := by
 obtain ⟨cur, hc, hs, hn, hi⟩ := h
 refine ⟨cur, Cells.far (Cells.far hc hne _ _) hne _ _, hs, hn, fun i hij => ?_⟩
 obtain ⟨n, B', d', k', e1, e2, iv⟩ := hi i hij
 exact ⟨n, B', d', k', e1, e2, iv.two hb _ _⟩
def RCOM (w : World) (ns : List Int) (d : Int) (e : Ending) (w' : World) : Prop :=
 ∃ g n A c l, e = .returned (.tuple #[.slice (some ⟨g, 0, none⟩) ns.length ns.length, .agg #[.bool n, .slice A (List.length l) c], .int .i64 0]) ∧ w.heap.size ≤ g ∧ CL w' g ns.length ns ns.length ∧ IV w' n A c l d ∧ Below w.heap.size w w'
theorem Common_any (w : World) (A : Option Addr) (c : Nat) (zs : List (Int × Int)) (h : QL w A zs) (hm : zs.length ≤ 20) (hz : ∀ i, i < zs.length → Can (zs.getD i (0, 0)).1 (zs.getD i (0, 0)).2 ∧ Lt 10 (zs.getD i (0, 0)).1 ∧ Lt 10 (zs.getD i (0, 0)).2) :
  Calls Tryz.prog 57 #[.slice A zs.length c] w (RCOM w (zs.map fun p => p.1 * (((LM (zs.map fun p => p.2.toNat) : Nat) : Int) / p.2)) ((LM (zs.map fun p => p.2.toNat) : Nat) : Int)) := by
 have hmk := fun w => run_mkI (zs.length : Int) zs.length rfl (by omega) w
 have H := Hi h
 have HM := Hi hm
 have HZ := Hi hz
 clear h hm hz
 obtain ⟨ys, hys⟩ : ∃ ys, ys = zs.map (·.2) := ⟨_, rfl⟩
 obtain ⟨xs, hxs⟩ : ∃ xs, xs = zs.map (·.1) := ⟨_, rfl⟩
 have YG : Hid (∀ i, ys.getD i 0 = (zs.getD i (0, 0)).2) := Hi (fun i => by rw [hys, List.getD_eq_getElem?_getD, List.getD_eq_getElem?_getD, List.getElem?_map]; cases zs[i]? <;> rfl)
 have XG : Hid (∀ i, xs.getD i 0 = (zs.getD i (0, 0)).1) := Hi (fun i => by rw [hxs, List.getD_eq_getElem?_getD, List.getD_eq_getElem?_getD, List.getElem?_map]; cases zs[i]? <;> rfl)
 have HYS := Hi hys
 have HXS := Hi hxs
 clear hys hxs
 go_enter Tryz.func57, Tryz.ntmps57
 go_wp2_with fail
 obtain ⟨W1, hW1⟩ : ∃ W, W = (w.alloc (.cells #[.bool false, .slice none 0 0] 24)).alloc (.cells (madeCells #[.bool false, .slice none 0 0] (zs.length * 2)) 24) := ⟨_, rfl⟩
 have hw1 : Below w.heap.size w W1 := by rw [hW1]; exact ba (ba (b0 _) _) _
 have x0 : Box2 W1 w.heap.size (.bool false) (.slice none 0 0) := by rw [hW1]; exact (Box2.new w _ _).alloc _
 have hcl : CL W1 (w.heap.size + 1) zs.length ys 0 := by
  refine ⟨_, ?_, ?_, noint_made (zs.length * 2), fun i hi => by omega⟩
  ·rw [hW1]
   have h := Cells.new (w.alloc (.cells #[.bool false, .slice none 0 0] 24)) 24 (madeCells #[.bool false, .slice none 0 0] (zs.length * 2))
   rw [World.size_alloc] at h
   exact h
  ·exact size_madeCells _ _
 rw [← hW1]
 have HC0 := Hi hcl
 have HB1 := Hi hw1
 have HX0 := Hi x0
 clear hW1 hcl hw1 x0
 go_loopw [15] (fun iv wr => ∃ j : Nat, iv = .int .i64 (j : Int) ∧ j ≤ zs.length ∧ Hid (CL wr (w.heap.size + 1) zs.length ys j) ∧ Hid (Box2 wr w.heap.size (.bool false) (.slice none 0 0)) ∧ Hid (Below w.heap.size w wr)) (fun iv wr => zs.length - (intOf iv).toNat)
 case atStart => exact ⟨0, rfl, Nat.zero_le _, HC0, HX0, HB1⟩
 case round =>
  obtain ⟨j, rfl, hj, HC, HXJ, HBJ⟩ := hrel
  clear HC0 HX0 HB1
  obtain ⟨wo, hwo⟩ : ∃ wo, wo = wr := ⟨_, rfl⟩
  rw [← hwo] at HC HXJ HBJ ⊢
  clear hwo wr
  by_cases hjn : j < zs.length
  ·have hji : (j : Int) < (zs.length : Int) := by omega
   have hj0 : ¬ (j : Int) < 0 := by omega
   obtain ⟨b, off, rfl, hbl, hq⟩ := (H.out.below HBJ.out) (by rintro rfl; simp at hjn)
   obtain ⟨n1, A1, c1, l1, m1, B1, d1, k1, e0, e1, e2, e3, i1, i2⟩ := hq j hjn
   have I1 := Hi i1
   have I2 := Hi i2
   clear i1 i2 hq
   go_wp2_with fail
   refine (sound_iv (I1.out.below (ba (b0 _) _)) (I2.out.below (ba (b0 _) _)) (HZ.out j hjn).1).mono ?_
   rintro e w2 ⟨rfl, hb⟩
   have xa := (Box4.new wo (.bool n1) (.slice A1 l1.length c1) (.bool m1) (.slice B1 k1.length d1)).below hb
   have hb2 : Below wo.heap.size wo w2 := bt (ba (b0 _) _) hb
   have hcl := HC.out.below hb2
   obtain ⟨⟨u0, q0⟩, ⟨u1, q1⟩, f0, f1⟩ := hcl.cells hjn
   have hiy : IV w2 m1 B1 d1 k1 (ys.getD j 0) := by rw [YG.out]; exact I2.out.below hb2
   have hp := hcl.put hjn hiy
   have HP := Hi hp
   have HXB := Hi (show Box2 ((w2.setCell ⟨w.heap.size + 1, j * 2, none⟩ (.bool m1)).setCell ⟨w.heap.size + 1, j * 2 + 1, none⟩ (.slice B1 k1.length d1)) w.heap.size (.bool false) (.slice none 0 0) from Cells.far (Cells.far (HXJ.out.below hb2) (by omega) _ _) (by omega) _ _)
   have HBB := Hi (show Below w.heap.size w ((w2.setCell ⟨w.heap.size + 1, j * 2, none⟩ (.bool m1)).setCell ⟨w.heap.size + 1, j * 2 + 1, none⟩ (.slice B1 k1.length d1)) from bs (bs (bt HBJ.out hb2) (Nat.le_succ _) _) (Nat.le_succ _) _)
   clear hp hcl hiy hb hb2 e0 e1 e2 e3 I1 I2 HC HXJ HBJ hbl
   have c2 := xa.cell2
   have c3 := xa.cell3
   go_wp2_with fail
   go_roundw
   case rel =>
    have hwj : wrap64 ((j : Int) + 1) = ((j + 1 : Nat) : Int) := by have := HM.out; unfold wrap64; omega
    exact ⟨j + 1, by rw [hwj], by omega, HP, HXB, HBB⟩
   case measure =>
    have hwj : wrap64 ((j : Int) + 1) = ((j + 1 : Nat) : Int) := by have := HM.out; unfold wrap64; omega
    rw [hwj]
    simp [intOf]
    omega
  ·have hji : ¬ (j : Int) < (zs.length : Int) := by omega
   obtain rfl : j = zs.length := by omega
   obtain ⟨ds, hds⟩ : ∃ ds, ds = zs.map (fun p => p.2.toNat) := ⟨_, rfl⟩
   have hdl : ds.length = zs.length := by rw [hds]; simp
   have hyd : ∀ i, i < zs.length → ys.getD i 0 = ((ds.getD i 0 : Nat) : Int) := by
    intro i hi
    have h1 := (HZ.out i hi).1.1
    rw [YG.out, hds, List.getD_eq_getElem?_getD, List.getD_eq_getElem?_getD, List.getElem?_map, List.getElem?_eq_getElem hi] at *
    simp at h1 ⊢
    omega
   have hdz : ∀ z ∈ ds, 0 < z ∧ z < 2 ^ 320 := by
    intro z hz
    obtain ⟨i, hi, rfl⟩ := List.getElem_of_mem hz
    have h1 := (HZ.out i (by omega)).1.1
    have h2 := (HZ.out i (by omega)).2.2
    have h3 := hyd i (by omega)
    rw [YG.out, List.getD_eq_getElem?_getD (l := ds), List.getElem?_eq_getElem hi] at h3
    simp only [Option.getD_some] at h3
    rw [h3] at h1 h2
    unfold Lt at h2
    rw [Int.natAbs_natCast, bb_pow2] at h2
    refine ⟨by clear h2; omega, ?_⟩
    rw [show (320 : Nat) = 32 * 10 from rfl]
    exact h2
   have hil := CL.il (ds := ds) (by rw [hdl]; exact HC.out) (fun i hi => hyd i (by omega))
   have hlm := lm_iv ds.length ds (Nat.le_refl _) wo (some ⟨w.heap.size + 1, 0, none⟩) zs.length hil (by omega) (by have := HM.out; omega) hdz
   rw [hdl] at hlm
   have HLM := Hi hlm
   have HDS := Hi hds
   have HDL := Hi hdl
   have HYD := Hi hyd
   have HDZ := Hi hdz
   clear hlm hil hdz hyd hdl hds
   go_wp2_with fail
   refine HLM.out.mono ?_
   rintro e w2 ⟨n1, A1, c1, l1, rfl, i1, hb⟩
   have I1 := Hi i1
   have hx := HXJ.out.below hb
   obtain ⟨r0, r1⟩ := hx.cs
   have f0 := hx.free 0
   have f1 := hx.free 1
   go_wp2_with fail
   obtain ⟨d, hd⟩ : ∃ d, d = ((LM ds : Nat) : Int) := ⟨_, rfl⟩
   obtain ⟨W2, hW2⟩ : ∃ W, W = (w2.setCell ⟨w.heap.size, 0, none⟩ (.bool n1)).setCell ⟨w.heap.size, 1, none⟩ (.slice A1 l1.length c1) := ⟨_, rfl⟩
   have y0 : Box2 W2 w.heap.size (.bool n1) (.slice A1 l1.length c1) := by rw [hW2]; exact (hx.set0 _).set1 _
   have j1 : IV W2 n1 A1 c1 l1 d := by rw [hW2, hd]; exact I1.out.two hx _ _
   have hw2 : Below w.heap.size w W2 := by rw [hW2]; exact b2 (bt HBJ.out hb) (Nat.le_refl _) _ _
   have hsz2 : w2.heap.size = W2.heap.size := by rw [hW2]; simp [World.setCell]
   rw [← hW2]
   try rw [hsz2]
   clear hsz2 hW2 r0 r1 f0 f1 hx I1 hb HC HXJ HBJ HLM
   obtain ⟨g, hg⟩ : ∃ g, g = W2.heap.size := ⟨_, rfl⟩
   obtain ⟨ns, hns⟩ : ∃ ns, ns = zs.map (fun p => p.1 * (d / p.2)) := ⟨_, rfl⟩
   obtain ⟨W3, hW3⟩ : ∃ W, W = W2.alloc (.cells (madeCells #[.bool false, .slice none 0 0] (zs.length * 2)) 24) := ⟨_, rfl⟩
   have y3 := y0.below (show Below W2.heap.size W2 W3 by rw [hW3]; exact ba (b0 _) _)
   have j3 := j1.below (show Below W2.heap.size W2 W3 by rw [hW3]; exact ba (b0 _) _)
   have hw3 := bt hw2 (show Below W2.heap.size W2 W3 by rw [hW3]; exact ba (b0 _) _)
   have hcl : CL W3 g zs.length ns 0 := by
    refine ⟨_, ?_, ?_, noint_made (zs.length * 2), fun i hi => by omega⟩
    ·rw [hW3, hg]
     exact Cells.new W2 24 (madeCells #[.bool false, .slice none 0 0] (zs.length * 2))
    ·exact size_madeCells _ _
   have hgw : w.heap.size < g := by rw [hg]; exact y0.lt
   rw [← hW3, ← hg]
   have HC3 := Hi hcl
   have HY3 := Hi y3
   have HJ3 := Hi j3
   have HB3 := Hi hw3
   have HNS := Hi hns
   have HD := Hi hd
   have NSG : Hid (∀ i, i < zs.length → ns.getD i 0 = (zs.getD i (0, 0)).1 * (d / (zs.getD i (0, 0)).2)) := Hi (fun i hi => by rw [hns, List.getD_eq_getElem?_getD, List.getD_eq_getElem?_getD, List.getElem?_map, List.getElem?_eq_getElem hi]; rfl)
   have HDL6 : Hid (Lt 201 d) := Hi (by
    have h1 := LM_bound (e := 320) (fun x hx => (HDZ.out x hx).2) (fun x hx => (HDZ.out x hx).1)
    obtain ⟨E, hE⟩ : ∃ E, E = 32 * 201 := ⟨_, rfl⟩
    rw [hd]
    unfold Lt
    rw [Int.natAbs_natCast, bb_pow2, ← hE]
    have h2 := HDL.out
    have h3 := HM.out
    exact Nat.lt_of_le_of_lt h1 (Nat.pow_lt_pow_right (by decide) (by omega)))
   clear hW3 hcl y3 j3 hw3 hg y0 j1 hw2 hns hd hmk
   go_loopw [37] (fun iv wr => ∃ j : Nat, iv = .int .i64 (j : Int) ∧ j ≤ zs.length ∧ Hid (CL wr g zs.length ns j) ∧ Hid (Box2 wr w.heap.size (.bool n1) (.slice A1 l1.length c1)) ∧ Hid (IV wr n1 A1 c1 l1 d) ∧ Hid (Below w.heap.size w wr)) (fun iv wr => zs.length - (intOf iv).toNat)
   case atStart => exact ⟨0, rfl, Nat.zero_le _, HC3, HY3, HJ3, HB3⟩
   case round =>
    obtain ⟨j, rfl, hj, HC, HYJ, HJJ, HBJ⟩ := hrel
    clear HC3 HY3 HJ3 HB3
    obtain ⟨wo, hwo⟩ : ∃ wo, wo = wr := ⟨_, rfl⟩
    rw [← hwo] at HC HYJ HJJ HBJ ⊢
    clear hwo wr
    by_cases hjn : j < zs.length
    ·have hji : (j : Int) < (zs.length : Int) := by omega
     have hj0 : ¬ (j : Int) < 0 := by omega
     obtain ⟨b, off, rfl, hbl, hq⟩ := (H.out.below HBJ.out) (by rintro rfl; simp at hjn)
     obtain ⟨n3, A3, c3, l3, m3, B3, d3, k3, e0, e1, e2, e3, i3, i4⟩ := hq j hjn
     have I3 := Hi i3
     have I4 := Hi i4
     clear i3 i4 hq
     go_wp2_with fail
     obtain ⟨w4, hw4⟩ : ∃ W, W = wo.alloc (.cells #[.bool n3, .slice A3 l3.length c3, .bool m3, .slice B3 k3.length d3] 35) := ⟨_, rfl⟩
     have hb4 : Below wo.heap.size wo w4 := by rw [hw4]; exact ba (b0 _) _
     have xa : Box4 w4 wo.heap.size (.bool n3) (.slice A3 l3.length c3) (.bool m3) (.slice B3 k3.length d3) := by rw [hw4]; exact Box4.new _ _ _ _ _
     have yb := HYJ.out.below hb4
     have hw5 := bt HBJ.out hb4
     have K3 := Hi (I3.out.below hb4)
     have K4 := Hi (I4.out.below hb4)
     have KD := Hi (HJJ.out.below hb4)
     have KC := Hi (HC.out.below hb4)
     rw [← hw4]
     clear hw4 hb4 e0 e1 e2 e3 I3 I4 HC HYJ HJJ HBJ hbl
     have HY0 : Hid ((zs.getD j (0, 0)).2 ≠ 0) := Hi (by have := (HZ.out j hjn).1.1; omega)
     have HLM : Hid (Lt 2100 ((zs.getD j (0, 0)).1 * (d / (zs.getD j (0, 0)).2))) := Hi (lt_le (lt_mul (HZ.out j hjn).2.1 (lt_ediv HDL6.out)) (by decide))
     have HC := (Go.Proofs.YtgljdfblgpdaaaaGreatDoor.hj xa.hc yb.hc)
     have HW := Hi hw5
     have Gxa := Hi xa
     have Gyb := Hi yb
     clear xa yb hw5
     refine rg0 9 HC fun hHeld => ?_
     refine tk 0 ?_
     refine tk 1 ?_
     refine tk 2 ?_
     refine tk 3 ?_
     refine tk 4 ?_
     refine tk 5 ?_
     refine tk 6 ?_
     refine cl 7 fun K hK => ?_
     go_simp
     go_at_call 112
     refine (over_iv (KD.out.below (bw (b0 _))) (K4.out.below (bw (b0 _))) HY0.out).mono ?_
     rintro e w6 ⟨n5, A5, c5, l5, rfl, i5, hb⟩
     have HBw6 := Hi (bt (bw (b0 w4)) hb)
     have I5 := Hi i5
     clear hb i5 hHeld
     refine rk hK (HC.out _ HBw6.out) fun hHeld => ?_
     clear hK K
     refine cl 8 fun K hK => ?_
     go_simp
     go_at_call 22
     refine (Mul_iv (K3.out.below HBw6.out) (I5.out.below (b0 _)) rfl HLM.out).mono ?_
     rintro e w7 ⟨n6, A6, c6, l6, rfl, i6, hb⟩
     have HBw7 := Hi (bt HBw6.out hb)
     have I6 := Hi i6
     clear hb i6 hHeld
     refine rk hK (HC.out _ HBw7.out) fun hHeld => ?_
     clear hK K
     refine wpAnyH_done (by kernel_rfl) ?_ _
     simp only [HT]
     clear hHeld
     have yb := Gyb.out.below HBw7.out
     replace KC := Hi (KC.out.below HBw7.out)
     have hw1_ := bt HW.out HBw7.out
     have hcl := KC.out
     obtain ⟨⟨u0, q0⟩, ⟨u1, q1⟩, f0, f1⟩ := hcl.cells hjn
     have hix : IV w7 n6 A6 c6 l6 (ns.getD j 0) := by rw [NSG.out j hjn]; exact I6.out
     have hp := hcl.put hjn hix
     have HP := Hi hp
     have HXB := Hi (show Box2 ((w7.setCell ⟨g, j * 2, none⟩ (.bool n6)).setCell ⟨g, j * 2 + 1, none⟩ (.slice A6 l6.length c6)) w.heap.size (.bool n1) (.slice A1 l1.length c1) from Cells.far (Cells.far yb (by omega) _ _) (by omega) _ _)
     have HBB := Hi (show Below w.heap.size w ((w7.setCell ⟨g, j * 2, none⟩ (.bool n6)).setCell ⟨g, j * 2 + 1, none⟩ (.slice A6 l6.length c6)) from bs (bs hw1_ (Nat.le_of_lt hgw) _) (Nat.le_of_lt hgw) _)
     have HDD := Hi (hcl.iv (KD.out.below HBw7.out) (j * 2) (j * 2 + 1) (.bool n6) (.slice A6 l6.length c6))
     clear hp hcl hix
     go_wp2_with fail
     go_roundw
     case rel =>
      have hwj : wrap64 ((j : Int) + 1) = ((j + 1 : Nat) : Int) := by have := HM.out; unfold wrap64; omega
      exact ⟨j + 1, by rw [hwj], by omega, HP, HXB, HDD, HBB⟩
     case measure =>
      have hwj : wrap64 ((j : Int) + 1) = ((j + 1 : Nat) : Int) := by have := HM.out; unfold wrap64; omega
      rw [hwj]
      simp [intOf]
      omega
    ·have hji : ¬ (j : Int) < (zs.length : Int) := by omega
     obtain rfl : j = zs.length := by omega
     obtain ⟨r0, r1⟩ := HYJ.out.cs
     have f0 := HYJ.out.free 0
     have f1 := HYJ.out.free 1
     go_wp2_with fail
     go_region_law fail
     simp only [Act.put, List.getElem_toArray, List.getElem_cons_zero, List.getElem_cons_succ, List.setIfInBounds_toArray, List.set_cons_zero, List.set_cons_succ]
     obtain ⟨W5, hW5⟩ : ∃ W, W = (wo.setCell ⟨w.heap.size, 0, none⟩ (.bool n1)).setCell ⟨w.heap.size, 1, none⟩ (.slice A1 l1.length c1) := ⟨_, rfl⟩
     have z0 : Box2 W5 w.heap.size (.bool n1) (.slice A1 l1.length c1) := by rw [hW5]; exact (HYJ.out.set0 _).set1 _
     have jd : IV W5 n1 A1 c1 l1 d := by rw [hW5]; exact HJJ.out.two HYJ.out _ _
     have jc : CL W5 g zs.length ns zs.length := by rw [hW5]; exact HC.out.two HYJ.out (by omega) _ _
     have hb5 : Below w.heap.size w W5 := by rw [hW5]; exact b2 HBJ.out (Nat.le_refl _) _ _
     rw [← hW5]
     clear hW5 r0 r1 f0 f1
     have bd5 : Below W5.heap.size W5 W5.drew := bw (b0 _)
     have z5 := z0.below bd5
     obtain ⟨q0, q1⟩ := z5.cs
     refine (by assumption : ∀ (a : Act) (w : World), Code.wp _ Code.ret _ a w → _) _ _ (wp_ret ?_)
     try simp only [Exit.then]
     refine bodyPost_ret (v := .tuple #[.slice (some ⟨g, 0, none⟩) zs.length zs.length, .agg #[.bool n1, .slice A1 l1.length c1], .int .i64 0]) (by simp [results, Tryz.results57, go_sem, q0, q1]) rfl ?_
     have hnl : ns.length = zs.length := by rw [HNS.out]; simp
     have hR : RCOM w ns d (.returned (.tuple #[.slice (some ⟨g, 0, none⟩) zs.length zs.length, .agg #[.bool n1, .slice A1 l1.length c1], .int .i64 0])) W5.drew :=
      ⟨g, n1, A1, c1, l1, by rw [hnl], Nat.le_of_lt hgw, by rw [hnl]; exact jc.below bd5, jd.below bd5, bt hb5 bd5⟩
     rw [HNS.out, HD.out, HDS.out] at hR
     exact hR
end Go.Proofs.YtgljdfblgpdaaaaGreatDoor
