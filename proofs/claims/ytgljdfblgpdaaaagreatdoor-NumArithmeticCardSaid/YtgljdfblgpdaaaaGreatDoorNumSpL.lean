/- The specification by value: Bezout. -/
import Derived.Test.YtgljdfblgpdaaaaGreatDoorNumSpJ
import Derived.Test.YtgljdfblgpdaaaaGreatDoorNumBzM
import Derived.Test.YtgljdfblgpdaaaaGreatDoorNumForm
import Derived.Deep.DeepCutAuto
import Derived.Deep.RegionLaw
set_option linter.unusedSimpArgs false
set_option linter.unusedVariables false
namespace Go.Proofs.YtgljdfblgpdaaaaGreatDoor
open Go.RowKit Go.Shelf

/-- An integer lies in the box p. -/
def IB (W : World) (p : Nat) (z : Int) : Prop := ∃ n A c l, Box2 W p (.bool n) (.slice A l.length c) ∧ IV W n A c l z
theorem IB.below {W W' : World} {p : Nat} {z : Int} (h : IB W p z) (hb : Below W.heap.size W W') : IB W' p z := by
  obtain ⟨n, A, c, l, b, i⟩ := h
  exact ⟨n, A, c, l, b.below hb, i.below hb⟩
theorem IB.far {W : World} {p q : Nat} {z : Int} (h : IB W p z) {u : Bool} {B : Option Addr} {k d : Nat} (hb : Box2 W q (.bool u) (.slice B k d)) (hne : p ≠ q) (x y : Value) :
    IB ((W.setCell ⟨q, 0, none⟩ x).setCell ⟨q, 1, none⟩ y) p z := by
  obtain ⟨n, A, c, l, b, i⟩ := h
  exact ⟨n, A, c, l, b.far hne x y, i.two hb x y⟩
theorem IB.put {W : World} {q : Nat} {z : Int} {u : Bool} {B : Option Addr} {k d : Nat} (hb : Box2 W q (.bool u) (.slice B k d)) {n : Bool} {A : Option Addr} {c : Nat} {l : List Nat} (i : IV W n A c l z) :
    IB ((W.setCell ⟨q, 0, none⟩ (.bool n)).setCell ⟨q, 1, none⟩ (.slice A l.length c)) q z :=
  ⟨n, A, c, l, hb.stored _ _, i.two hb _ _⟩
theorem IB.zero {W : World} {p : Nat} (h : Box2 W p (.bool false) (.slice none 0 0)) : IB W p 0 := ⟨false, none, 0, [], h, ⟨Nat.le_refl _, WS.nil_ _ _, rfl, rfl, by decide⟩⟩
theorem IB.of {W : World} {p : Nat} {n : Bool} {A : Option Addr} {c : Nat} {l : List Nat} {z : Int} (b : Box2 W p (.bool n) (.slice A l.length c)) (i : IV W n A c l z) : IB W p z := ⟨n, A, c, l, b, i⟩

theorem IB.uniq {W : World} {p : Nat} {z z' : Int} (h : IB W p z) (h' : IB W p z') : z = z' := by
  obtain ⟨n, A, c, l, b, i⟩ := h
  obtain ⟨n', A', c', l', b', i'⟩ := h'
  exact box_uniq b b' i i'
theorem IB.meas (p : Nat) : ∃ mz : World → Nat, ∀ W z, IB W p z → mz W = z.natAbs := by
  classical
  refine ⟨fun W => if h : ∃ z, IB W p z then (Classical.choose h).natAbs else 0, fun W z h => ?_⟩
  have hex : ∃ z, IB W p z := ⟨z, h⟩
  show (if h : ∃ z, IB W p z then (Classical.choose h).natAbs else 0) = _
  rw [dif_pos hex, (Classical.choose_spec hex).uniq h]
/-- What lies in Bezout's boxes. -/
structure BzS (w W : World) (na nb : Bool) (A B : Option Addr) (ca cb : Nat) (la lb : List Nat) (px py ps pt : Nat) (g X Y s t : Int) : Prop where
  a : Box2 W w.heap.size (.bool na) (.slice A la.length ca)
  b : Box2 W (w.heap.size + 1) (.bool nb) (.slice B lb.length cb)
  gg : IB W (w.heap.size + 1 + 1) g
  u : Box2 W (w.heap.size + 1 + 1 + 1) (.bool false) (.slice none 0 0)
  v : Box2 W (w.heap.size + 1 + 1 + 1 + 1) (.bool false) (.slice none 0 0)
  xx : IB W px X
  yy : IB W py Y
  ss : IB W ps s
  tt : IB W pt t
  k : Below w.heap.size w W
/-- Bezout's boxes lie apart. -/
structure BzD (w : World) (px py ps pt : Nat) : Prop where
  xy : px ≠ py
  xs : px ≠ ps
  xt : px ≠ pt
  ys : py ≠ ps
  yt : py ≠ pt
  st : ps ≠ pt
  x : w.heap.size + 1 + 1 + 1 + 1 < px
  y : w.heap.size + 1 + 1 + 1 + 1 < py
  s : w.heap.size + 1 + 1 + 1 + 1 < ps
  t : w.heap.size + 1 + 1 + 1 + 1 < pt
section
variable {w W W' : World} {na nb : Bool} {A B : Option Addr} {ca cb : Nat} {la lb : List Nat} {px py ps pt : Nat} {g X Y s t v : Int}
theorem BzS.below (h : BzS w W na nb A B ca cb la lb px py ps pt g X Y s t) (hb : Below W.heap.size W W') : BzS w W' na nb A B ca cb la lb px py ps pt g X Y s t :=
  ⟨h.a.below hb, h.b.below hb, h.gg.below hb, h.u.below hb, h.v.below hb, h.xx.below hb, h.yy.below hb, h.ss.below hb, h.tt.below hb, bt h.k hb⟩
theorem BzS.set_x (h : BzS w W na nb A B ca cb la lb px py ps pt g X Y s t) (d : BzD w px py ps pt) {n : Bool} {C : Option Addr} {c : Nat} {l : List Nat} (i : IV W n C c l v) :
    BzS w ((W.setCell ⟨px, 0, none⟩ (.bool n)).setCell ⟨px, 1, none⟩ (.slice C l.length c)) na nb A B ca cb la lb px py ps pt g v Y s t := by
  obtain ⟨_, _, _, _, b, _⟩ := h.xx
  have h1 := d.x
  exact ⟨h.a.far (by omega) _ _, h.b.far (by omega) _ _, h.gg.far b (by omega) _ _, h.u.far (by omega) _ _, h.v.far (by omega) _ _, .put b i, h.yy.far b (fun e => d.xy e.symm) _ _, h.ss.far b (fun e => d.xs e.symm) _ _, h.tt.far b (fun e => d.xt e.symm) _ _, b2 h.k (by omega) _ _⟩
theorem BzS.set_y (h : BzS w W na nb A B ca cb la lb px py ps pt g X Y s t) (d : BzD w px py ps pt) {n : Bool} {C : Option Addr} {c : Nat} {l : List Nat} (i : IV W n C c l v) :
    BzS w ((W.setCell ⟨py, 0, none⟩ (.bool n)).setCell ⟨py, 1, none⟩ (.slice C l.length c)) na nb A B ca cb la lb px py ps pt g X v s t := by
  obtain ⟨_, _, _, _, b, _⟩ := h.yy
  have h1 := d.y
  exact ⟨h.a.far (by omega) _ _, h.b.far (by omega) _ _, h.gg.far b (by omega) _ _, h.u.far (by omega) _ _, h.v.far (by omega) _ _, h.xx.far b d.xy _ _, .put b i, h.ss.far b (fun e => d.ys e.symm) _ _, h.tt.far b (fun e => d.yt e.symm) _ _, b2 h.k (by omega) _ _⟩
theorem BzS.set_s (h : BzS w W na nb A B ca cb la lb px py ps pt g X Y s t) (d : BzD w px py ps pt) {n : Bool} {C : Option Addr} {c : Nat} {l : List Nat} (i : IV W n C c l v) :
    BzS w ((W.setCell ⟨ps, 0, none⟩ (.bool n)).setCell ⟨ps, 1, none⟩ (.slice C l.length c)) na nb A B ca cb la lb px py ps pt g X Y v t := by
  obtain ⟨_, _, _, _, b, _⟩ := h.ss
  have h1 := d.s
  exact ⟨h.a.far (by omega) _ _, h.b.far (by omega) _ _, h.gg.far b (by omega) _ _, h.u.far (by omega) _ _, h.v.far (by omega) _ _, h.xx.far b d.xs _ _, h.yy.far b d.ys _ _, .put b i, h.tt.far b (fun e => d.st e.symm) _ _, b2 h.k (by omega) _ _⟩
theorem BzS.set_t (h : BzS w W na nb A B ca cb la lb px py ps pt g X Y s t) (d : BzD w px py ps pt) {n : Bool} {C : Option Addr} {c : Nat} {l : List Nat} (i : IV W n C c l v) :
    BzS w ((W.setCell ⟨pt, 0, none⟩ (.bool n)).setCell ⟨pt, 1, none⟩ (.slice C l.length c)) na nb A B ca cb la lb px py ps pt g X Y s v := by
  obtain ⟨_, _, _, _, b, _⟩ := h.tt
  have h1 := d.t
  exact ⟨h.a.far (by omega) _ _, h.b.far (by omega) _ _, h.gg.far b (by omega) _ _, h.u.far (by omega) _ _, h.v.far (by omega) _ _, h.xx.far b d.xt _ _, h.yy.far b d.yt _ _, h.ss.far b d.st _ _, .put b i, b2 h.k (by omega) _ _⟩
theorem BzS.iv_px (h : BzS w W na nb A B ca cb la lb px py ps pt g X Y s t) {n : Bool} {C : Option Addr} {c : Nat} {l : List Nat} (i : IV W n C c l v) (a b : Value) : IV ((W.setCell ⟨px, 0, none⟩ a).setCell ⟨px, 1, none⟩ b) n C c l v := by
  obtain ⟨_, _, _, _, k, _⟩ := h.xx
  exact i.two k a b
theorem BzS.iv_py (h : BzS w W na nb A B ca cb la lb px py ps pt g X Y s t) {n : Bool} {C : Option Addr} {c : Nat} {l : List Nat} (i : IV W n C c l v) (a b : Value) : IV ((W.setCell ⟨py, 0, none⟩ a).setCell ⟨py, 1, none⟩ b) n C c l v := by
  obtain ⟨_, _, _, _, k, _⟩ := h.yy
  exact i.two k a b
theorem BzS.iv_ps (h : BzS w W na nb A B ca cb la lb px py ps pt g X Y s t) {n : Bool} {C : Option Addr} {c : Nat} {l : List Nat} (i : IV W n C c l v) (a b : Value) : IV ((W.setCell ⟨ps, 0, none⟩ a).setCell ⟨ps, 1, none⟩ b) n C c l v := by
  obtain ⟨_, _, _, _, k, _⟩ := h.ss
  exact i.two k a b
theorem BzS.iv_pt (h : BzS w W na nb A B ca cb la lb px py ps pt g X Y s t) {n : Bool} {C : Option Addr} {c : Nat} {l : List Nat} (i : IV W n C c l v) (a b : Value) : IV ((W.setCell ⟨pt, 0, none⟩ a).setCell ⟨pt, 1, none⟩ b) n C c l v := by
  obtain ⟨_, _, _, _, k, _⟩ := h.tt
  exact i.two k a b
end
/-- What lies in Bezout's boxes at its end. -/
structure BzR (w W : World) (na nb n5 n9 : Bool) (A B A5 A9 : Option Addr) (ca cb c5 c9 : Nat) (la lb l5 l9 : List Nat) (g u : Int) : Prop where
  a : Box2 W w.heap.size (.bool na) (.slice A la.length ca)
  b : Box2 W (w.heap.size + 1) (.bool nb) (.slice B lb.length cb)
  bg : Box2 W (w.heap.size + 1 + 1) (.bool n5) (.slice A5 l5.length c5)
  bu : Box2 W (w.heap.size + 1 + 1 + 1) (.bool n9) (.slice A9 l9.length c9)
  ig : IV W n5 A5 c5 l5 g
  iu : IV W n9 A9 c9 l9 u
  k : Below w.heap.size w W
section
variable {w W W' : World} {na nb n5 n9 : Bool} {A B A5 A9 : Option Addr} {ca cb c5 c9 : Nat} {la lb l5 l9 : List Nat} {g u : Int}
theorem BzR.below (h : BzR w W na nb n5 n9 A B A5 A9 ca cb c5 c9 la lb l5 l9 g u) (hb : Below W.heap.size W W') : BzR w W' na nb n5 n9 A B A5 A9 ca cb c5 c9 la lb l5 l9 g u :=
  ⟨h.a.below hb, h.b.below hb, h.bg.below hb, h.bu.below hb, h.ig.below hb, h.iu.below hb, bt h.k hb⟩
theorem BzR.cells (h : BzR w W na nb n5 n9 A B A5 A9 ca cb c5 c9 la lb l5 l9 g u) : W.cell? ⟨w.heap.size + 1 + 1, 0, none⟩ = some (.bool n5) ∧ W.cell? ⟨w.heap.size + 1 + 1, 1, none⟩ = some (.slice A5 l5.length c5) ∧ W.cell? ⟨w.heap.size + 1 + 1 + 1, 0, none⟩ = some (.bool n9) ∧ W.cell? ⟨w.heap.size + 1 + 1 + 1, 1, none⟩ = some (.slice A9 l9.length c9) ∧ W.cell? ⟨w.heap.size, 0, none⟩ = some (.bool na) ∧ W.cell? ⟨w.heap.size, 1, none⟩ = some (.slice A la.length ca) ∧ W.cell? ⟨w.heap.size + 1, 0, none⟩ = some (.bool nb) ∧ W.cell? ⟨w.heap.size + 1, 1, none⟩ = some (.slice B lb.length cb) :=
  ⟨h.bg.cell0, h.bg.cell1, h.bu.cell0, h.bu.cell1, h.a.cell0, h.a.cell1, h.b.cell0, h.b.cell1⟩
theorem BzR.set_g (h : BzR w W na nb n5 n9 A B A5 A9 ca cb c5 c9 la lb l5 l9 g u) : BzR w ((W.setCell ⟨w.heap.size + 1 + 1, 0, none⟩ (.bool n5)).setCell ⟨w.heap.size + 1 + 1, 1, none⟩ (.slice A5 l5.length c5)) na nb n5 n9 A B A5 A9 ca cb c5 c9 la lb l5 l9 g u :=
  ⟨h.a.far (by omega) _ _, h.b.far (by omega) _ _, h.bg.stored _ _, h.bu.far (by omega) _ _, h.ig.two h.bg _ _, h.iu.two h.bg _ _, b2 h.k (by omega) _ _⟩
theorem BzR.set_u (h : BzR w W na nb n5 n9 A B A5 A9 ca cb c5 c9 la lb l5 l9 g u) : BzR w ((W.setCell ⟨w.heap.size + 1 + 1 + 1, 0, none⟩ (.bool n9)).setCell ⟨w.heap.size + 1 + 1 + 1, 1, none⟩ (.slice A9 l9.length c9)) na nb n5 n9 A B A5 A9 ca cb c5 c9 la lb l5 l9 g u :=
  ⟨h.a.far (by omega) _ _, h.b.far (by omega) _ _, h.bg.far (by omega) _ _, h.bu.stored _ _, h.ig.two h.bu _ _, h.iu.two h.bu _ _, b2 h.k (by omega) _ _⟩
theorem BzR.set_v (h : BzR w W na nb n5 n9 A B A5 A9 ca cb c5 c9 la lb l5 l9 g u) {n : Bool} {C : Option Addr} {j d : Nat} (hv : Box2 W (w.heap.size + 1 + 1 + 1 + 1) (.bool n) (.slice C j d)) (x y : Value) : BzR w ((W.setCell ⟨w.heap.size + 1 + 1 + 1 + 1, 0, none⟩ x).setCell ⟨w.heap.size + 1 + 1 + 1 + 1, 1, none⟩ y) na nb n5 n9 A B A5 A9 ca cb c5 c9 la lb l5 l9 g u :=
  ⟨h.a.far (by omega) _ _, h.b.far (by omega) _ _, h.bg.far (by omega) _ _, h.bu.far (by omega) _ _, h.ig.two hv _ _, h.iu.two hv _ _, b2 h.k (by omega) _ _⟩
end

set_option maxRecDepth 100000 in
set_option maxHeartbeats 8000000 in
theorem RBez_main {w : World} {na nb : Bool} {A B : Option Addr} {ca cb : Nat} {la lb : List Nat} {x y : Int} (ia : IV w na A ca la x) (ib : IV w nb B cb lb y) (hx : Lt 50 x) (hy : Lt 50 y) (hy0 : y ≠ 0) :
    Calls Tryz.prog 16 #[.agg #[.bool na, .slice A la.length ca], .agg #[.bool nb, .slice B lb.length cb]] w (RBEZ w x y) := by
  have ea := ia.len
  have eb := ib.len
  have hg0 : Lt 50 ((Nat.gcd x.natAbs y.natAbs : Nat) : Int) := lt_gcd hx hy
  obtain ⟨g, hg⟩ : ∃ g, g = ((Nat.gcd x.natAbs y.natAbs : Nat) : Int) := ⟨_, rfl⟩
  rw [← hg] at hg0
  have HX := Lib.hid hx
  have HY := Lib.hid hy
  have HG := Lib.hid hg0
  have HGE := Lib.hid hg
  have HY0 := Lib.hid hy0
  have hlb0 : lb.length ≠ 0 := fun h => hy0 (by rw [← ib.val]; exact (zI_zero ib.can).2 h)
  have hlz : ((lb.length : Int) == 0) = false := beq_eq_false_iff_ne.2 (by omega)
  have HIA := Lib.hid ia
  have HIB := Lib.hid ib
  obtain ⟨W1, hW1, hw1, x0, x1, x2, x3, x4⟩ := boxes5 w na nb A B la.length ca lb.length cb
  clear hx hy hg hg0 hy0 ia ib hlb0
  go_enter Tryz.func16, Tryz.ntmps16
  go_wp2_with fail
  rw [← hW1]
  clear hW1
  refine (RIs_iv (HIA.out.below hw1)).mono ?_
  rintro e w1 ⟨rfl, hb1⟩
  have s0 := (x1.below hb1).cell0
  have s1 := (x1.below hb1).cell1
  go_wp2_with fail
  refine (RIs_iv (HIB.out.below (bt hw1 hb1))).mono ?_
  rintro e w2 ⟨rfl, hb2⟩
  clear s0 s1
  have hb12 := (show Below W1.heap.size W1 w2 from bt hb1 hb2)
  have hw2 := bt hw1 hb12
  replace x0 := x0.below hb12
  replace x1 := x1.below hb12
  replace x2 := x2.below hb12
  replace x3 := x3.below hb12
  replace x4 := x4.below hb12
  clear hb1 hb2 hb12 hw1 W1 w1
  have s0 := x0.cell0
  have s1 := x0.cell1
  have s2 := x1.cell0
  have s3 := x1.cell1
  go_wp2_with fail
  refine (RGcd_iv (HIA.out.below hw2) (HIB.out.below hw2) HGE.out.symm (lt_le HG.out (by decide))).mono ?_
  rintro e w3 ⟨n3, A3, c3, l3, rfl, i3, hb3⟩
  replace x0 := x0.below hb3
  replace x1 := x1.below hb3
  replace x2 := x2.below hb3
  replace x3 := x3.below hb3
  replace x4 := x4.below hb3
  have hw3 := bt hw2 hb3
  clear s0 s1 s2 s3 hb3 hw2 w2
  have f0 := x2.free 0
  have f1 := x2.free 1
  have g0 := x2.cell0
  have g1 := x2.cell1
  have s2 := x1.cell0
  have s3 := x1.cell1
  have s4 := (x1.far (show w.heap.size + 1 ≠ w.heap.size + 1 + 1 by omega) (.bool n3) (.slice A3 l3.length c3)).cell1
  go_wp2_with fail
  obtain ⟨w1, hw1⟩ : ∃ W, W = (w3.setCell ⟨w.heap.size + 1 + 1, 0, none⟩ (.bool n3)).setCell ⟨w.heap.size + 1 + 1, 1, none⟩ (.slice A3 l3.length c3) := ⟨_, rfl⟩
  rw [← hw1]
  have HBY : Hid (Box2 w1 w.heap.size (.bool na) (.slice A la.length ca)) := Lib.hid (by rw [hw1]; exact x0.far (by omega) _ _)
  have HBZ : Hid (Box2 w1 (w.heap.size + 1) (.bool nb) (.slice B lb.length cb)) := Lib.hid (by rw [hw1]; exact x1.far (by omega) _ _)
  have HBG : Hid (IB w1 (w.heap.size + 1 + 1) g) := Lib.hid (by rw [hw1]; exact .put x2 i3)
  have HBU : Hid (Box2 w1 (w.heap.size + 1 + 1 + 1) (.bool false) (.slice none 0 0)) := Lib.hid (by rw [hw1]; exact x3.far (by omega) _ _)
  have HBV : Hid (Box2 w1 (w.heap.size + 1 + 1 + 1 + 1) (.bool false) (.slice none 0 0)) := Lib.hid (by rw [hw1]; exact x4.far (by omega) _ _)
  have hK : Below w.heap.size w w1 := by rw [hw1]; exact b2 hw3 (by omega) _ _
  have HLB : Hid (Lt 300 (y.natAbs : Int)) := Lib.hid (lt_le (show Lt 50 (y.natAbs : Int) from by have := HY.out; unfold Lt at *; simpa using this) (by decide))
  have hxs := HBV.out.lt
  clear hw1 x0 x1 x2 x3 x4 i3 hw3 f0 f1 g0 g1 s2 s3 s4 hlz
  clear w3
  have y0 := HBY.out.cell0
  have y1 := HBY.out.cell1
  have y2 := HBZ.out.cell0
  have y3 := HBZ.out.cell1
  go_upto_region 6 with fail
  go_cut [8, 9] (fun s t wx => PwAt w1 (x % y) (y.natAbs : Int) s t wx)
  case first =>
    as_aux_lemma =>
    have S5 : ∀ W, Below w1.heap.size w1 W → W.cell? ⟨w.heap.size, 0, none⟩ = some (.bool na) ∧ W.cell? ⟨w.heap.size, 1, none⟩ = some (.slice A la.length ca) ∧ W.cell? ⟨w.heap.size + 1, 0, none⟩ = some (.bool nb) ∧ W.cell? ⟨w.heap.size + 1, 1, none⟩ = some (.slice B lb.length cb) := fun W hb => ⟨cell_below (HBY.out.cell0) hb, cell_below (HBY.out.cell1) hb, cell_below (HBZ.out.cell0) hb, cell_below (HBZ.out.cell1) hb⟩
    have HS5 := Lib.hid S5
    clear S5
    go_region_held3 (fun W => W.cell? ⟨w.heap.size, 0, none⟩ = some (.bool na) ∧ W.cell? ⟨w.heap.size, 1, none⟩ = some (.slice A la.length ca) ∧ W.cell? ⟨w.heap.size + 1, 0, none⟩ = some (.bool nb) ∧ W.cell? ⟨w.heap.size + 1, 1, none⟩ = some (.slice B lb.length cb))
      ((refine HS5.out _ ?_; (repeat (first | assumption | exact b0 _ | apply ba | apply bd | apply bw | (refine bs ?_ (by first | exact Nat.le_refl _ | (dsimp only; omega) | omega) _)))))
      (first
      | (go_at_call 96; refine (RMod_iv (HIA.out.below (bt hK (by repeat (first | assumption | exact b0 _ | apply ba | apply bd | apply bw)))) (HIB.out.below (bt hK (by repeat (first | assumption | exact b0 _ | apply ba | apply bd | apply bw)))) HY0.out).mono ?_; rintro e w6 ⟨n6, A6, c6, l6, rfl, i6, hb6⟩; obtain ⟨hcc6, hff6⟩ := bcell hb6; have hw6 := i6.ws; have hb16 : Below w1.heap.size w1 w6 := bt (by repeat (first | assumption | exact b0 _ | apply ba | apply bd | apply bw)) hb6; have sz6 := hb16.size; have sy6 := hb6.size; (try simp at sy6); (try have sw6 : w1.heap.size < w6.heap.size := by omega); (try have sv6 : w1.heap.size + 1 < w6.heap.size := by omega))
      | (go_at_call 62; refine (RAbs_iv (HIB.out.below (bt hK (by repeat (first | assumption | exact b0 _ | apply ba | apply bd | apply bw)))) rfl HLB.out).mono ?_; rintro e w7 ⟨n7, A7, c7, l7, rfl, i7, hb7⟩; obtain ⟨hcc7, hff7⟩ := bcell hb7; have hw7 := i7.ws; have hb17 : Below w1.heap.size w1 w7 := bt (by repeat (first | assumption | exact b0 _ | apply ba | apply bd | apply bw)) hb7; have sz7 := hb17.size; have sy7 := hb7.size; (try simp at sy7); (try have sw7 : w1.heap.size < w7.heap.size := by omega); (try have sv7 : w1.heap.size + 1 < w7.heap.size := by omega); (try have su7 : w6.heap.size < w7.heap.size := by omega); (try have st7 : w6.heap.size + 1 < w7.heap.size := by omega); have hw67 := (hw6.below (by repeat (first | assumption | exact b0 _ | apply ba | apply bd | apply bw))).below hb7))
    all_goals (go_wp2_with fail; go_meet)
    all_goals
      have g6 := fun (p : Nat) (h : Box2 w7 p (.bool false) (.slice none 0 0)) => ws_off_box h (by simp) hw67
      have g7 := fun (p : Nat) (h : Box2 w7 p (.bool false) (.slice none 0 0)) => ws_off_box h (by simp) hw7
      have G6 := fun (p : Nat) (h : w7.heap.size ≤ p) => hw67.off h
      have G7 := fun (p : Nat) (h : w7.heap.size ≤ p) => hw7.off h
      refine ⟨_, _, rfl, rfl, n6, A6, c6, l6, n7, A7, c7, l7, ?_, ?_, ⟨i6.cap, ?_, i6.can, i6.val, i6.len⟩, ⟨i7.cap, ?_, i7.can, i7.val, i7.len⟩, ?_, ?_, ?_, ?_⟩
      · (repeat (first
          | with_reducible exact hw67
          | with_reducible exact hw7
          | (with_reducible refine WS.below ?_ (ba (b0 _) _))
          | (with_reducible refine WS.two ?_ ?_ _ _)
          | (focus ((with_reducible refine Box2.new' ?_); (simp; done)))
          | (with_reducible refine Box2.alloc ?_ _)
          | (with_reducible refine Box2.stored' ?_ _ _)
          | (with_reducible refine Box2.far ?_ ?_ _ _)
          | (with_reducible refine Box2.below ?_ hb7)
          | (with_reducible refine Box2.below ?_ hb6)
          | exact G6 _ (by first | exact Nat.le_refl _ | omega)
          | exact G7 _ (by first | exact Nat.le_refl _ | omega)
          | (with_reducible refine g6 _ ?_)
          | (with_reducible refine g7 _ ?_)
          | omega
          | (focus (simp; done))
          | (with_reducible refine Box2.drew' ?_)))
      · (repeat (first
          | with_reducible exact hw67
          | with_reducible exact hw7
          | (with_reducible refine WS.below ?_ (ba (b0 _) _))
          | (with_reducible refine WS.two ?_ ?_ _ _)
          | (focus ((with_reducible refine Box2.new' ?_); (simp; done)))
          | (with_reducible refine Box2.alloc ?_ _)
          | (with_reducible refine Box2.stored' ?_ _ _)
          | (with_reducible refine Box2.far ?_ ?_ _ _)
          | (with_reducible refine Box2.below ?_ hb7)
          | (with_reducible refine Box2.below ?_ hb6)
          | exact G6 _ (by first | exact Nat.le_refl _ | omega)
          | exact G7 _ (by first | exact Nat.le_refl _ | omega)
          | (with_reducible refine g6 _ ?_)
          | (with_reducible refine g7 _ ?_)
          | omega
          | (focus (simp; done))
          | (with_reducible refine Box2.drew' ?_)))
      · (repeat (first
          | with_reducible exact hw67
          | with_reducible exact hw7
          | (with_reducible refine WS.below ?_ (ba (b0 _) _))
          | (with_reducible refine WS.two ?_ ?_ _ _)
          | (focus ((with_reducible refine Box2.new' ?_); (simp; done)))
          | (with_reducible refine Box2.alloc ?_ _)
          | (with_reducible refine Box2.stored' ?_ _ _)
          | (with_reducible refine Box2.far ?_ ?_ _ _)
          | (with_reducible refine Box2.below ?_ hb7)
          | (with_reducible refine Box2.below ?_ hb6)
          | exact G6 _ (by first | exact Nat.le_refl _ | omega)
          | exact G7 _ (by first | exact Nat.le_refl _ | omega)
          | (with_reducible refine g6 _ ?_)
          | (with_reducible refine g7 _ ?_)
          | omega
          | (focus (simp; done))
          | (with_reducible refine Box2.drew' ?_)))
      · (repeat (first
          | with_reducible exact hw67
          | with_reducible exact hw7
          | (with_reducible refine WS.below ?_ (ba (b0 _) _))
          | (with_reducible refine WS.two ?_ ?_ _ _)
          | (focus ((with_reducible refine Box2.new' ?_); (simp; done)))
          | (with_reducible refine Box2.alloc ?_ _)
          | (with_reducible refine Box2.stored' ?_ _ _)
          | (with_reducible refine Box2.far ?_ ?_ _ _)
          | (with_reducible refine Box2.below ?_ hb7)
          | (with_reducible refine Box2.below ?_ hb6)
          | exact G6 _ (by first | exact Nat.le_refl _ | omega)
          | exact G7 _ (by first | exact Nat.le_refl _ | omega)
          | (with_reducible refine g6 _ ?_)
          | (with_reducible refine g7 _ ?_)
          | omega
          | (focus (simp; done))
          | (with_reducible refine Box2.drew' ?_)))
      · omega
      · omega
      · omega
      · repeat (first | exact hb17 | (with_reducible refine ba ?_ _) | (with_reducible refine bs ?_ ?_ _))
        all_goals (first | exact Nat.le_refl _ | (dsimp only; omega) | omega)
  case rest =>
  obtain ⟨px, py, rfl, rfl, hpw⟩ := hcut
  obtain ⟨w8, hw8⟩ : ∃ v, v = wc := ⟨_, rfl⟩
  rw [← hw8] at hpw ⊢
  clear hw8 wc
  obtain ⟨n1, A1, c1, l1, n2, A2, c2, l2, bp, bq, i1, i2, hxy, hpx, hpy, hbl⟩ := hpw
  have HBA8 := Lib.hid (HBY.out.below hbl)
  have HBB8 := Lib.hid (HBZ.out.below hbl)
  have HBG8 := Lib.hid (HBG.out.below hbl)
  have HBU8 := Lib.hid (HBU.out.below hbl)
  have HBV8 := Lib.hid (HBV.out.below hbl)
  have HBX8 := Lib.hid (IB.of bp i1)
  have HBY8 := Lib.hid (IB.of bq i2)
  have hK8 := bt hK hbl
  have hpx8 := bp.lt
  have hpy8 := bq.lt
  have hxs8 := HBV8.out.lt
  clear HBY HBZ HBG HBU HBV bp bq i1 i2 hbl y0 y1 y2 y3
  have y0 := HBA8.out.cell0
  have y1 := HBA8.out.cell1
  go_wp2_with fail
  refine (ROf_iv w8 1 (by omega) (by omega)).mono ?_
  rintro e w6 ⟨n6, A6, c6, l6, rfl, i6, hb6⟩
  clear y0 y1
  go_wp2_with fail
  obtain ⟨w9, hw9⟩ : ∃ W, W = (w6.alloc (.cells #[.bool n6, .slice A6 l6.length c6] 24)).alloc (.cells #[.bool false, .slice none 0 0] 24) := ⟨_, rfl⟩
  have BS : Box2 w9 w6.heap.size (.bool n6) (.slice A6 l6.length c6) := by rw [hw9]; exact (Box2.new _ _ _).alloc _
  have BT : Box2 w9 (w6.heap.size + 1) (.bool false) (.slice none 0 0) := by
    rw [hw9]
    have := Box2.new (w6.alloc (.cells #[.bool n6, .slice A6 l6.length c6] 24)) (.bool false) (.slice none 0 0)
    rwa [World.size_alloc] at this
  have hb69 : Below w6.heap.size w6 w9 := by rw [hw9]; exact ba (ba (b0 _) _) _
  have hbl := (show Below w8.heap.size w8 w9 from bt hb6 hb69)
  have i9 := i6.below hb69
  have hs68 := hb6.size
  rw [← hw9]
  clear hw9
  obtain ⟨ps, hps⟩ : ∃ p, p = w6.heap.size := ⟨_, rfl⟩
  have HPT : Hid (w6.heap.size + 1 = ps + 1) := Lib.hid (by rw [hps])
  obtain ⟨pt, hpt⟩ : ∃ p, p = w6.heap.size + 1 := ⟨_, rfl⟩
  rw [← hpt] at BT ⊢
  rw [← hps] at BS ⊢
  have HS9 := Lib.hid (BzS.mk (w := w) (g := g) (HBA8.out.below hbl) (HBB8.out.below hbl) (HBG8.out.below hbl) (HBU8.out.below hbl) (HBV8.out.below hbl) (HBX8.out.below hbl) (HBY8.out.below hbl) (IB.of BS i9) (IB.zero BT) (bt hK8 hbl))
  have HD : Hid (BzD w px py ps pt) := Lib.hid ⟨hxy, by omega, by omega, by omega, by omega, by omega, by omega, by omega, by omega, by omega⟩
  clear HPT HBA8 HBB8 HBG8 HBU8 HBV8 HBX8 HBY8 BS BT i6 i9 hb6 hb69 hbl hs68 hps hpt hK8 hK hpx8 hpy8 hxs8 hxs hpx hpy hxy
  clear w8 w1 w6
  obtain ⟨mz, hmz⟩ := IB.meas px
  have HMZ := Lib.hid hmz
  clear hmz
  go_wp2_with fail
  go_loopw [] (fun wr => ∃ X Y s t : Int, Hid (BzI x y X Y s t) ∧ Hid (BzS w wr na nb A B ca cb la lb px py ps pt g X Y s t)) (fun wr => mz wr)
  case atStart => exact ⟨_, _, _, _, Lib.hid (BzI.start HY0.out), HS9⟩
  case round =>
    clear HS9
    obtain ⟨X, Y, s, t, hI, hS⟩ := hrel
    obtain ⟨n1, A1, c1, l1, b1, i1⟩ := hS.out.xx
    obtain ⟨n2, A2, c2, l2, b2, i2⟩ := hS.out.yy
    obtain ⟨n3, A3, c3, l3, b3, i3⟩ := hS.out.ss
    obtain ⟨n4, A4, c4, l4, b4, i4⟩ := hS.out.tt
    have hzl : l1.length = 0 ↔ X = 0 := by rw [← zI_zero i1.can, i1.val]
    have x0 := b1.cell0
    have x1 := b1.cell1
    have y0 := b2.cell0
    have y1 := b2.cell1
    by_cases hX : X = 0
    · have hl0 : ¬ (0 : Int) < (l1.length : Int) := by have := hzl.2 hX; omega
      subst hX
      obtain ⟨wo, rfl⟩ : ∃ W : World, W = wr := ⟨_, rfl⟩
      have J4 := Lib.hid i4
      have J2 := Lib.hid (HIB.out.below hS.out.k)
      obtain ⟨n5, A5, c5, l5, b5, i5⟩ := hS.out.gg
      have J5 := Lib.hid i5
      have HBU := Lib.hid hS.out.u
      have HBG := Lib.hid b5
      have bB := hS.out.b
      have t0 := b4.cell0
      have t1 := b4.cell1
      have s2 := bB.cell0
      have s3 := bB.cell1
      have g0 := b5.cell0
      have g1 := b5.cell1
      have hYg : Y = g := by rw [HGE.out]; exact hI.out.gcd0
      have HGP : Hid (g ≠ 0) := Lib.hid (by have := hI.out.y0; omega)
      have HMP : Hid ((y.natAbs : Int) / g ≠ 0) := Lib.hid (by
        have h1 := hI.out.yb
        have h2 := hI.out.y0
        rw [hYg] at h1 h2
        have := (Int.le_ediv_iff_mul_le h2 (a := 1) (b := (y.natAbs : Int))).2 (by omega)
        omega)
      have HC : Hid (∀ W, Below wo.heap.size wo W → (W.cell? ⟨pt, 0, none⟩ = some (.bool n4) ∧ W.cell? ⟨pt, 1, none⟩ = some (.slice A4 l4.length c4) ∧ W.cell? ⟨w.heap.size + 1, 0, none⟩ = some (.bool nb) ∧ W.cell? ⟨w.heap.size + 1, 1, none⟩ = some (.slice B lb.length cb) ∧ W.cell? ⟨w.heap.size + 1 + 1, 0, none⟩ = some (.bool n5) ∧ W.cell? ⟨w.heap.size + 1 + 1, 1, none⟩ = some (.slice A5 l5.length c5))) := Lib.hid (fun W hb => ⟨cell_below t0 hb, cell_below t1 hb, cell_below s2 hb, cell_below s3 hb, cell_below g0 hb, cell_below g1 hb⟩)
      clear hzl i1 i2 i3 i4 i5 b1 b2 b3 b4 b5 bB y0 y1
      go_wp2_with fail
      refine wp_region_cut0 6 (fun W => W.cell? ⟨pt, 0, none⟩ = some (.bool n4) ∧ W.cell? ⟨pt, 1, none⟩ = some (.slice A4 l4.length c4) ∧ W.cell? ⟨w.heap.size + 1, 0, none⟩ = some (.bool nb) ∧ W.cell? ⟨w.heap.size + 1, 1, none⟩ = some (.slice B lb.length cb) ∧ W.cell? ⟨w.heap.size + 1 + 1, 0, none⟩ = some (.bool n5) ∧ W.cell? ⟨w.heap.size + 1 + 1, 1, none⟩ = some (.slice A5 l5.length c5)) (by kernel_rfl) (by decide) (by kernel_rfl) (by kernel_rfl) ⟨t0, t1, s2, s3, g0, g1⟩ (fun hHeld => ?_)
      simp only [List.take_succ_cons, List.take_zero, List.drop_succ_cons, List.drop_zero, Nat.reduceSub, Act.put, List.setIfInBounds_toArray, List.set_cons_zero, List.set_cons_succ]
      refine wpAnyH_take (i := 0) (v := ?_) rfl (by kernel_rfl) (by kernel_rfl) (by kernel_rfl) (fun _ _ _ h => h) (Or.inl ⟨by rfl, ?_⟩) (by assumption) ?_
      rotate_left
      · (intro w hSw; (try dsimp only at hSw); go_simp; all_goals with_reducible rfl)
      try simp only [Act.put, List.setIfInBounds_toArray, List.set_cons_zero, List.set_cons_succ]
      refine wpAnyH_take (i := 1) (v := ?_) rfl (by kernel_rfl) (by kernel_rfl) (by kernel_rfl) (fun _ _ _ h => h) (Or.inl ⟨by rfl, ?_⟩) (by assumption) ?_
      rotate_left
      · (intro w hSw; (try dsimp only at hSw); go_simp; all_goals with_reducible rfl)
      try simp only [Act.put, List.setIfInBounds_toArray, List.set_cons_zero, List.set_cons_succ]
      refine wpAnyH_take (i := 3) (v := ?_) rfl (by kernel_rfl) (by kernel_rfl) (by kernel_rfl) (fun _ _ _ h => h) (Or.inl ⟨by rfl, ?_⟩) (by assumption) ?_
      rotate_left
      · (intro w hSw; (try dsimp only at hSw); go_simp; all_goals with_reducible rfl)
      try simp only [Act.put, List.setIfInBounds_toArray, List.set_cons_zero, List.set_cons_succ]
      refine wpAnyH_ready (rs := [2]) (by kernel_rfl) (by simp) ?_
      refine AllReadyH.cons rfl (fun K hK => ?_) AllReadyH.nil
      go_simp
      go_at_call 62
      refine (RAbs_iv (J2.out.below (bw (b0 _))) rfl HLB.out).mono ?_
      rintro e w4 ⟨n7, A7, c7, l7, rfl, i7, hb4'⟩
      have hb4 := (show Below wo.heap.size wo w4 from bt (bw (b0 _)) hb4')
      have HB4 := Lib.hid hb4
      have k4 := HC.out w4 hb4
      clear hb4 hb4'
      refine hK.out _ _ k4 (fun hHeld => ?_)
      clear hK K
      try simp only [Act.put, List.setIfInBounds_toArray, List.set_cons_zero, List.set_cons_succ]
      refine wpAnyH_ready (rs := [4]) (by kernel_rfl) (by simp) ?_
      refine AllReadyH.cons rfl (fun K hK => ?_) AllReadyH.nil
      go_simp
      go_at_call 97
      refine (RQuo_iv i7 (J5.out.below HB4.out) HGP.out).mono ?_
      rintro e w5 ⟨n8, A8, c8, l8, rfl, i8, hb5'⟩
      have hb5 := (show Below wo.heap.size wo w5 from bt HB4.out hb5')
      have HB5 := Lib.hid hb5
      have k5 := HC.out w5 hb5
      clear hb5 hb5'
      refine hK.out _ _ k5 (fun hHeld => ?_)
      clear hK K
      try simp only [Act.put, List.setIfInBounds_toArray, List.set_cons_zero, List.set_cons_succ]
      refine wpAnyH_ready (rs := [5]) (by kernel_rfl) (by simp) ?_
      refine AllReadyH.cons rfl (fun K hK => ?_) AllReadyH.nil
      go_simp
      go_at_call 96
      refine (RMod_iv (J4.out.below HB5.out) i8 HMP.out).mono ?_
      rintro e w6 ⟨n9, A9, c9, l9, rfl, i9, hb6'⟩
      have hb6 := (show Below wo.heap.size wo w6 from bt HB5.out hb6')
      have HB6 := Lib.hid hb6
      have k6 := HC.out w6 hb6
      have bu6 := HBU.out.below hb6
      have u0 := bu6.cell0
      have u1 := bu6.cell1
      have f0 := bu6.free 0
      have f1 := bu6.free 1
      clear hb6 hb6'
      refine hK.out _ _ k6 (fun hHeld => ?_)
      clear hK K
      try simp only [Act.put, List.setIfInBounds_toArray, List.set_cons_zero, List.set_cons_succ]
      refine wpAnyH_done (by kernel_rfl) ?_ _
      simp only [HT]
      go_wp2_with fail
      obtain ⟨w7, hw7⟩ : ∃ W, W = (w6.setCell ⟨w.heap.size + 1 + 1 + 1, 0, none⟩ (.bool n9)).setCell ⟨w.heap.size + 1 + 1 + 1, 1, none⟩ (.slice A9 l9.length c9) := ⟨_, rfl⟩
      rw [← hw7]
      have hBF := hI.out.last HY0.out HX.out HY.out rfl rfl
      rw [hYg] at hBF
      obtain ⟨uu, huu⟩ : ∃ u, u = t % ((y.natAbs : Int) / g) := ⟨_, rfl⟩
      rw [← huu] at hBF i9
      have HBF := Lib.hid hBF.1
      have HUX : Hid (Lt 300 (uu * x)) := Lib.hid (lt_le (lt_mul HBF.out.ul HX.out) (by decide))
      have HGU : Hid (Lt 300 (g - uu * x)) := Lib.hid (lt_le (lt_sub HG.out (lt_mul HBF.out.ul HX.out)) (by decide))
      have hS6 := hS.out.below HB6.out
      have HR7 : Hid (BzR w w7 na nb n5 n9 A B A5 A9 ca cb c5 c9 la lb l5 l9 g uu) := Lib.hid (by
        rw [hw7]
        exact ⟨hS6.a.far (by omega) _ _, hS6.b.far (by omega) _ _, (HBG.out.below HB6.out).far (by omega) _ _, hS6.u.stored _ _, (J5.out.below HB6.out).two hS6.u _ _, i9.two hS6.u _ _, b2 hS6.k (by omega) _ _⟩)
      have HV7 : Hid (Box2 w7 (w.heap.size + 1 + 1 + 1 + 1) (.bool false) (.slice none 0 0)) := Lib.hid (by rw [hw7]; exact hS6.v.far (by omega) _ _)
      clear hYg hw7 hBF huu hS6 i9 i8 i7 u0 u1 f0 f1 k4 k5 k6 bu6 t0 t1 s2 s3 g0 g1 hHeld
      refine wp_region_held_drew (S := fun W => W.cell? ⟨w.heap.size + 1 + 1, 0, none⟩ = some (.bool n5) ∧ W.cell? ⟨w.heap.size + 1 + 1, 1, none⟩ = some (.slice A5 l5.length c5) ∧ W.cell? ⟨w.heap.size + 1 + 1 + 1, 0, none⟩ = some (.bool n9) ∧ W.cell? ⟨w.heap.size + 1 + 1 + 1, 1, none⟩ = some (.slice A9 l9.length c9) ∧ W.cell? ⟨w.heap.size, 0, none⟩ = some (.bool na) ∧ W.cell? ⟨w.heap.size, 1, none⟩ = some (.slice A la.length ca) ∧ W.cell? ⟨w.heap.size + 1, 0, none⟩ = some (.bool nb) ∧ W.cell? ⟨w.heap.size + 1, 1, none⟩ = some (.slice B lb.length cb)) (by kernel_rfl) HR7.out.cells (fun hHeld => ?_)
      obtain ⟨Wd, hWd⟩ : ∃ W, W = w7.drew := ⟨_, rfl⟩
      rw [← hWd] at hHeld ⊢
      have HRd : Hid (BzR w Wd na nb n5 n9 A B A5 A9 ca cb c5 c9 la lb l5 l9 g uu) := Lib.hid (by rw [hWd]; exact HR7.out.below (bw (b0 _)))
      have HVd : Hid (Box2 Wd (w.heap.size + 1 + 1 + 1 + 1) (.bool false) (.slice none 0 0)) := Lib.hid (by rw [hWd]; exact HV7.out)
      clear hWd
      refine wpAnyH_take (i := 0) (v := ?_) rfl (by kernel_rfl) (by kernel_rfl) (by kernel_rfl) (fun _ _ _ h => h) (Or.inl ⟨by rfl, ?_⟩) (by assumption) ?_
      rotate_left
      · (intro w hSw; (try dsimp only at hSw); go_simp; all_goals with_reducible rfl)
      try simp only [Act.put, List.setIfInBounds_toArray, List.set_cons_zero, List.set_cons_succ]
      refine wpAnyH_take (i := 1) (v := ?_) rfl (by kernel_rfl) (by kernel_rfl) (by kernel_rfl) (fun _ _ _ h => h) (Or.inl ⟨by rfl, ?_⟩) (by assumption) ?_
      rotate_left
      · (intro w hSw; (try dsimp only at hSw); go_simp; all_goals with_reducible rfl)
      try simp only [Act.put, List.setIfInBounds_toArray, List.set_cons_zero, List.set_cons_succ]
      refine wpAnyH_take (i := 2) (v := ?_) rfl (by kernel_rfl) (by kernel_rfl) (by kernel_rfl) (fun _ _ _ h => h) (Or.inl ⟨by rfl, ?_⟩) (by assumption) ?_
      rotate_left
      · (intro w hSw; (try dsimp only at hSw); go_simp; all_goals with_reducible rfl)
      try simp only [Act.put, List.setIfInBounds_toArray, List.set_cons_zero, List.set_cons_succ]
      refine wpAnyH_take (i := 3) (v := ?_) rfl (by kernel_rfl) (by kernel_rfl) (by kernel_rfl) (fun _ _ _ h => h) (Or.inl ⟨by rfl, ?_⟩) (by assumption) ?_
      rotate_left
      · (intro w hSw; (try dsimp only at hSw); go_simp; all_goals with_reducible rfl)
      try simp only [Act.put, List.setIfInBounds_toArray, List.set_cons_zero, List.set_cons_succ]
      refine wpAnyH_take (i := 4) (v := ?_) rfl (by kernel_rfl) (by kernel_rfl) (by kernel_rfl) (fun _ _ _ h => h) (Or.inl ⟨by rfl, ?_⟩) (by assumption) ?_
      rotate_left
      · (intro w hSw; (try dsimp only at hSw); go_simp; all_goals with_reducible rfl)
      try simp only [Act.put, List.setIfInBounds_toArray, List.set_cons_zero, List.set_cons_succ]
      refine wpAnyH_take (i := 7) (v := ?_) rfl (by kernel_rfl) (by kernel_rfl) (by kernel_rfl) (fun _ _ _ h => h) (Or.inl ⟨by rfl, ?_⟩) (by assumption) ?_
      rotate_left
      · (intro w hSw; (try dsimp only at hSw); go_simp; all_goals with_reducible rfl)
      try simp only [Act.put, List.setIfInBounds_toArray, List.set_cons_zero, List.set_cons_succ]
      refine wpAnyH_ready (rs := [5]) (by kernel_rfl) (by simp) ?_
      refine AllReadyH.cons rfl (fun K hK => ?_) AllReadyH.nil
      go_simp
      go_at_call 23
      refine (RMul_iv HRd.out.iu (HIA.out.below HRd.out.k) rfl HUX.out).mono ?_
      rintro e w8 ⟨n10, A10, c10, l10, rfl, i10, hb8⟩
      have HB8 := Lib.hid hb8
      have k8 := (HRd.out.below hb8).cells
      clear hb8 hHeld
      refine hK.out _ _ k8 (fun hHeld => ?_)
      clear hK K
      try simp only [Act.put, List.setIfInBounds_toArray, List.set_cons_zero, List.set_cons_succ]
      refine wpAnyH_ready (rs := [6]) (by kernel_rfl) (by simp) ?_
      refine AllReadyH.cons rfl (fun K hK => ?_) AllReadyH.nil
      go_simp
      go_at_call 21
      refine (RSub_iv (HRd.out.ig.below HB8.out) i10 rfl HGU.out).mono ?_
      rintro e w9 ⟨n11, A11, c11, l11, rfl, i11, hb9⟩
      have HB9 := Lib.hid (bt HB8.out hb9)
      have k9 := (HRd.out.below HB9.out).cells
      clear hb9 hHeld k8
      refine hK.out _ _ k9 (fun hHeld => ?_)
      clear hK K
      try simp only [Act.put, List.setIfInBounds_toArray, List.set_cons_zero, List.set_cons_succ]
      refine wpAnyH_ready (rs := [8]) (by kernel_rfl) (by simp) ?_
      refine AllReadyH.cons rfl (fun K hK => ?_) AllReadyH.nil
      go_simp
      go_at_call 97
      refine (RQuo_iv i11 (HIB.out.below (bt HRd.out.k HB9.out)) HY0.out).mono ?_
      rintro e w10 ⟨n12, A12, c12, l12, rfl, i12, hb10⟩
      have HB10 := Lib.hid (bt HB9.out hb10)
      have HR10 := Lib.hid (HRd.out.below HB10.out)
      have HV10 := Lib.hid (HVd.out.below HB10.out)
      have HI12 := Lib.hid i12
      have k10 := HR10.out.cells
      have x0 := HR10.out.bg.cell0
      have x1 := HR10.out.bg.cell1
      have y0 := HR10.out.bg.free 0
      have y1 := HR10.out.bg.free 1
      clear hb10 i12 hHeld k9
      refine hK.out _ _ k10 (fun hHeld => ?_)
      clear hK K
      try simp only [Act.put, List.setIfInBounds_toArray, List.set_cons_zero, List.set_cons_succ]
      refine wpAnyH_ready (rs := [9]) (by kernel_rfl) (by simp) ?_
      refine AllReadyH.cons rfl (fun K hK => ?_) AllReadyH.nil
      go_simp
      obtain ⟨Wx, hWx⟩ : ∃ W, W = (w10.setCell ⟨w.heap.size + 1 + 1, 0, none⟩ (Value.bool n5)).setCell ⟨w.heap.size + 1 + 1, 1, none⟩ (Value.slice A5 l5.length c5) := ⟨_, rfl⟩
      rw [← hWx]
      have HRx : Hid (BzR w Wx na nb n5 n9 A B A5 A9 ca cb c5 c9 la lb l5 l9 g uu) := Lib.hid (by rw [hWx]; exact HR10.out.set_g)
      have HVx : Hid (Box2 Wx (w.heap.size + 1 + 1 + 1 + 1) (.bool false) (.slice none 0 0)) := Lib.hid (by rw [hWx]; exact HV10.out.far (by omega) _ _)
      have HIx : Hid (IV Wx n12 A12 c12 l12 ((g - uu * x) / y)) := Lib.hid (by rw [hWx]; exact HI12.out.two HR10.out.bg _ _)
      clear hHeld k10
      refine hK.out _ _ HRx.out.cells (fun hHeld => ?_)
      clear hK K hWx x0 x1 y0 y1
      try simp only [Act.put, List.setIfInBounds_toArray, List.set_cons_zero, List.set_cons_succ]
      have x0 := HRx.out.bu.cell0
      have x1 := HRx.out.bu.cell1
      have y0 := HRx.out.bu.free 0
      have y1 := HRx.out.bu.free 1
      refine wpAnyH_ready (rs := [10]) (by kernel_rfl) (by simp) ?_
      refine AllReadyH.cons rfl (fun K hK => ?_) AllReadyH.nil
      go_simp
      obtain ⟨Wy, hWy⟩ : ∃ W, W = (Wx.setCell ⟨w.heap.size + 1 + 1 + 1, 0, none⟩ (Value.bool n9)).setCell ⟨w.heap.size + 1 + 1 + 1, 1, none⟩ (Value.slice A9 l9.length c9) := ⟨_, rfl⟩
      rw [← hWy]
      have HRy : Hid (BzR w Wy na nb n5 n9 A B A5 A9 ca cb c5 c9 la lb l5 l9 g uu) := Lib.hid (by rw [hWy]; exact HRx.out.set_u)
      have HVy : Hid (Box2 Wy (w.heap.size + 1 + 1 + 1 + 1) (.bool false) (.slice none 0 0)) := Lib.hid (by rw [hWy]; exact HVx.out.far (by omega) _ _)
      have HIy : Hid (IV Wy n12 A12 c12 l12 ((g - uu * x) / y)) := Lib.hid (by rw [hWy]; exact HIx.out.two HRx.out.bu _ _)
      clear hHeld
      refine hK.out _ _ HRy.out.cells (fun hHeld => ?_)
      clear hK K hWy x0 x1 y0 y1
      try simp only [Act.put, List.setIfInBounds_toArray, List.set_cons_zero, List.set_cons_succ]
      have x0 := HVy.out.cell0
      have x1 := HVy.out.cell1
      have y0 := HVy.out.free 0
      have y1 := HVy.out.free 1
      refine wpAnyH_ready (rs := [11]) (by kernel_rfl) (by simp) ?_
      refine AllReadyH.cons rfl (fun K hK => ?_) AllReadyH.nil
      go_simp
      obtain ⟨Wz, hWz⟩ : ∃ W, W = (Wy.setCell ⟨w.heap.size + 1 + 1 + 1 + 1, 0, none⟩ (Value.bool n12)).setCell ⟨w.heap.size + 1 + 1 + 1 + 1, 1, none⟩ (Value.slice A12 l12.length c12) := ⟨_, rfl⟩
      rw [← hWz]
      have HRz : Hid (BzR w Wz na nb n5 n9 A B A5 A9 ca cb c5 c9 la lb l5 l9 g uu) := Lib.hid (by rw [hWz]; exact HRy.out.set_v HVy.out _ _)
      have HVz : Hid (Box2 Wz (w.heap.size + 1 + 1 + 1 + 1) (.bool n12) (.slice A12 l12.length c12)) := Lib.hid (by rw [hWz]; exact HVy.out.stored _ _)
      have HIz : Hid (IV Wz n12 A12 c12 l12 ((g - uu * x) / y)) := Lib.hid (by rw [hWz]; exact HIy.out.two HVy.out _ _)
      clear hHeld
      refine hK.out _ _ HRz.out.cells (fun hHeld => ?_)
      clear hK K hWz x0 x1 y0 y1 hl0
      clear HR10 HV10 HI12 HB10 HB9 HB8 HRx HVx HIx HRy HVy HIy HRd HVd HR7 HV7
      try simp only [Act.put, List.setIfInBounds_toArray, List.set_cons_zero, List.set_cons_succ]
      refine wpAnyH_ready (rs := [12]) (by kernel_rfl) (by simp) ?_
      refine AllReadyH.cons rfl (fun K hK => ?_) AllReadyH.nil
      go_simp
      refine hK.out _ _ (by assumption) (fun hHeld2 => ?_)
      clear hK K hHeld2
      try simp only [Act.put, List.setIfInBounds_toArray, List.set_cons_zero, List.set_cons_succ]
      refine wpAnyH_done (by kernel_rfl) ?_ _
      obtain ⟨h20, h21, h30, h31, _, _, _, _⟩ := hHeld
      clear hS hI HC HBU HBG HB4 HB5 HB6
      refine (by assumption : ∀ (a : Act) (w : World), Code.wp _ Code.ret _ a w → _) _ _ (wp_ret ?_)
      have h40 := HVz.out.cell0
      have h41 := HVz.out.cell1
      refine bodyPost_ret (v := .tuple #[.agg #[.bool n5, .slice A5 l5.length c5], .agg #[.bool n9, .slice A9 l9.length c9], .agg #[.bool n12, .slice A12 l12.length c12], .int .i64 0]) (by simp [results, Tryz.results16, go_sem, h20, h21, h30, h31, h40, h41]) rfl ?_
      rw [HGE.out] at HRz
      exact ⟨uu, _, n5, A5, c5, l5, n9, A9, c9, l9, n12, A12, c12, l12, rfl, HBF.out, HRz.out.ig, HRz.out.iu, HIz.out, HRz.out.k⟩
    · have hl0 : (0 : Int) < (l1.length : Int) := by
        rcases Nat.eq_zero_or_pos l1.length with h | h
        · exact absurd (hzl.1 h) hX
        · omega
      have HX0 := Lib.hid hX
      have HI1 := Lib.hid i1
      have HI2 := Lib.hid i2
      have HI3 := Lib.hid i3
      have HI4 := Lib.hid i4
      have X0 := Lib.hid x0
      have X1 := Lib.hid x1
      have S0 := Lib.hid b3.cell0
      have S1 := Lib.hid b3.cell1
      have T0 := Lib.hid b4.cell0
      have T1 := Lib.hid b4.cell1
      clear hzl hX i1 i2 i3 i4 b1 b2 b3 b4
      go_wp2_with fail
      refine (RDiv_iv HI2.out HI1.out HX0.out).mono ?_
      rintro e w2 ⟨n5, A5, c5, l5, n6, A6, c6, l6, rfl, i5, i6, hb2⟩
      have HI5 := Lib.hid i5
      have HI6 := Lib.hid i6
      have HB2 := Lib.hid hb2
      clear i5 i6 hb2 x0 x1 y0 y1
      go_upto_region 10 with fail
      obtain ⟨w3, hw⟩ : ∃ W, W = (w2.alloc (.cells #[.bool n5, .slice A5 l5.length c5] 24)).alloc (.cells #[.bool n6, .slice A6 l6.length c6] 24) := ⟨_, rfl⟩
      have BQ : Box2 w3 w2.heap.size (.bool n5) (.slice A5 l5.length c5) := by rw [hw]; exact (Box2.new _ _ _).alloc _
      have BR : Box2 w3 (w2.heap.size + 1) (.bool n6) (.slice A6 l6.length c6) := by
        rw [hw]
        have := Box2.new (w2.alloc (.cells #[.bool n5, .slice A5 l5.length c5] 24)) (.bool n6) (.slice A6 l6.length c6)
        rwa [World.size_alloc] at this
      have hb23 : Below w2.heap.size w2 w3 := by rw [hw]; exact ba (ba (b0 _) _) _
      have HB3 := Lib.hid (bt HB2.out hb23)
      rw [← hw]
      clear hw
      have hS3 := hS.out.below HB3.out
      have HS3 := Lib.hid hS3
      have J5 := Lib.hid (HI5.out.below hb23)
      have J6 := Lib.hid (HI6.out.below hb23)
      have J1 := Lib.hid (HI1.out.below HB3.out)
      have J3 := Lib.hid (HI3.out.below HB3.out)
      have J4 := Lib.hid (HI4.out.below HB3.out)
      have q0 := BQ.cell0
      have q1 := BQ.cell1
      have r0 := BR.cell0
      have r1 := BR.cell1
      have x0 := cell_below X0.out HB3.out
      have x1 := cell_below X1.out HB3.out
      have s0 := cell_below S0.out HB3.out
      have s1 := cell_below S1.out HB3.out
      have t0 := cell_below T0.out HB3.out
      have t1 := cell_below T1.out HB3.out
      have HC : Hid (∀ W, Below w3.heap.size w3 W → (W.cell? ⟨w2.heap.size + 1, 0, none⟩ = some (.bool n6) ∧ W.cell? ⟨w2.heap.size + 1, 1, none⟩ = some (.slice A6 l6.length c6) ∧ W.cell? ⟨px, 0, none⟩ = some (.bool n1) ∧ W.cell? ⟨px, 1, none⟩ = some (.slice A1 l1.length c1) ∧ W.cell? ⟨pt, 0, none⟩ = some (.bool n4) ∧ W.cell? ⟨pt, 1, none⟩ = some (.slice A4 l4.length c4) ∧ W.cell? ⟨w2.heap.size, 0, none⟩ = some (.bool n5) ∧ W.cell? ⟨w2.heap.size, 1, none⟩ = some (.slice A5 l5.length c5) ∧ W.cell? ⟨ps, 0, none⟩ = some (.bool n3) ∧ W.cell? ⟨ps, 1, none⟩ = some (.slice A3 l3.length c3))) := Lib.hid (fun W hb => ⟨cell_below r0 hb, cell_below r1 hb, cell_below x0 hb, cell_below x1 hb, cell_below t0 hb, cell_below t1 hb, cell_below q0 hb, cell_below q1 hb, cell_below s0 hb, cell_below s1 hb⟩)
      have HIN := Lib.hid (hI.out.step HX0.out)
      have HQS : Hid (Lt 300 (Y / X * s)) := Lib.hid (by
        have h1 := hI.out.qs HX0.out
        have h2 := lt_le HY.out (show 50 ≤ 300 by decide)
        unfold Lt at *; omega)
      have HTQ : Hid (Lt 300 (t - Y / X * s)) := Lib.hid (by
        have h1 := HIN.out.sb
        have h2 := lt_le HY.out (show 50 ≤ 300 by decide)
        unfold Lt at *; omega)
      clear hS3 BQ BR hb23 HI1 HI2 HI3 HI4 HI5 HI6 hl0
      refine wp_region_cut0 8 (fun W => W.cell? ⟨w2.heap.size + 1, 0, none⟩ = some (.bool n6) ∧ W.cell? ⟨w2.heap.size + 1, 1, none⟩ = some (.slice A6 l6.length c6) ∧ W.cell? ⟨px, 0, none⟩ = some (.bool n1) ∧ W.cell? ⟨px, 1, none⟩ = some (.slice A1 l1.length c1) ∧ W.cell? ⟨pt, 0, none⟩ = some (.bool n4) ∧ W.cell? ⟨pt, 1, none⟩ = some (.slice A4 l4.length c4) ∧ W.cell? ⟨w2.heap.size, 0, none⟩ = some (.bool n5) ∧ W.cell? ⟨w2.heap.size, 1, none⟩ = some (.slice A5 l5.length c5) ∧ W.cell? ⟨ps, 0, none⟩ = some (.bool n3) ∧ W.cell? ⟨ps, 1, none⟩ = some (.slice A3 l3.length c3)) (by kernel_rfl) (by decide) (by kernel_rfl) (by kernel_rfl) ⟨r0, r1, x0, x1, t0, t1, q0, q1, s0, s1⟩ (fun hHeld => ?_)
      simp only [List.take_succ_cons, List.take_zero, List.drop_succ_cons, List.drop_zero, Nat.reduceSub, Act.put, List.setIfInBounds_toArray, List.set_cons_zero, List.set_cons_succ]
      refine wpAnyH_take (i := 0) (v := ?_) rfl (by kernel_rfl) (by kernel_rfl) (by kernel_rfl) (fun _ _ _ h => h) (Or.inl ⟨by rfl, ?_⟩) (by assumption) ?_
      rotate_left
      · (intro w hSw; (try dsimp only at hSw); go_simp; all_goals with_reducible rfl)
      try simp only [Act.put, List.setIfInBounds_toArray, List.set_cons_zero, List.set_cons_succ]
      refine wpAnyH_take (i := 1) (v := ?_) rfl (by kernel_rfl) (by kernel_rfl) (by kernel_rfl) (fun _ _ _ h => h) (Or.inl ⟨by rfl, ?_⟩) (by assumption) ?_
      rotate_left
      · (intro w hSw; (try dsimp only at hSw); go_simp; all_goals with_reducible rfl)
      try simp only [Act.put, List.setIfInBounds_toArray, List.set_cons_zero, List.set_cons_succ]
      refine wpAnyH_take (i := 2) (v := ?_) rfl (by kernel_rfl) (by kernel_rfl) (by kernel_rfl) (fun _ _ _ h => h) (Or.inl ⟨by rfl, ?_⟩) (by assumption) ?_
      rotate_left
      · (intro w hSw; (try dsimp only at hSw); go_simp; all_goals with_reducible rfl)
      try simp only [Act.put, List.setIfInBounds_toArray, List.set_cons_zero, List.set_cons_succ]
      refine wpAnyH_take (i := 3) (v := ?_) rfl (by kernel_rfl) (by kernel_rfl) (by kernel_rfl) (fun _ _ _ h => h) (Or.inl ⟨by rfl, ?_⟩) (by assumption) ?_
      rotate_left
      · (intro w hSw; (try dsimp only at hSw); go_simp; all_goals with_reducible rfl)
      try simp only [Act.put, List.setIfInBounds_toArray, List.set_cons_zero, List.set_cons_succ]
      refine wpAnyH_take (i := 4) (v := ?_) rfl (by kernel_rfl) (by kernel_rfl) (by kernel_rfl) (fun _ _ _ h => h) (Or.inl ⟨by rfl, ?_⟩) (by assumption) ?_
      rotate_left
      · (intro w hSw; (try dsimp only at hSw); go_simp; all_goals with_reducible rfl)
      try simp only [Act.put, List.setIfInBounds_toArray, List.set_cons_zero, List.set_cons_succ]
      refine wpAnyH_take (i := 7) (v := ?_) rfl (by kernel_rfl) (by kernel_rfl) (by kernel_rfl) (fun _ _ _ h => h) (Or.inl ⟨by rfl, ?_⟩) (by assumption) ?_
      rotate_left
      · (intro w hSw; (try dsimp only at hSw); go_simp; all_goals with_reducible rfl)
      try simp only [Act.put, List.setIfInBounds_toArray, List.set_cons_zero, List.set_cons_succ]
      refine wpAnyH_ready (rs := [5]) (by kernel_rfl) (by simp) ?_
      refine AllReadyH.cons rfl (fun K hK => ?_) AllReadyH.nil
      go_simp
      go_at_call 23
      refine (RMul_iv (J5.out.below (bw (b0 _))) (J3.out.below (bw (b0 _))) rfl HQS.out).mono ?_
      rintro e w4 ⟨n7, A7, c7, l7, rfl, i7, hb4'⟩
      have hb4 := (show Below w3.heap.size w3 w4 from bt (bw (b0 _)) hb4')
      have HB4 := Lib.hid hb4
      have k4 := HC.out w4 hb4
      clear hb4 hb4'
      refine hK.out _ _ k4 (fun hHeld => ?_)
      clear hK K
      try simp only [Act.put, List.setIfInBounds_toArray, List.set_cons_zero, List.set_cons_succ]
      refine wpAnyH_ready (rs := [6]) (by kernel_rfl) (by simp) ?_
      refine AllReadyH.cons rfl (fun K hK => ?_) AllReadyH.nil
      go_simp
      go_at_call 21
      refine (RSub_iv (J4.out.below HB4.out) i7 rfl HTQ.out).mono ?_
      rintro e w5 ⟨n8, A8, c8, l8, rfl, i8, hb5'⟩
      have hb5 := (show Below w3.heap.size w3 w5 from bt HB4.out hb5')
      have HB5 := Lib.hid hb5
      have k5 := HC.out w5 hb5
      clear hb5 hb5'
      refine hK.out _ _ k5 (fun hHeld => ?_)
      clear hK K
      try simp only [Act.put, List.setIfInBounds_toArray, List.set_cons_zero, List.set_cons_succ]
      refine wpAnyH_done (by kernel_rfl) ?_ _
      simp only [HT]
      have hS5 := HS3.out.below HB5.out
      obtain ⟨_, _, _, _, bx5, _⟩ := hS5.xx
      obtain ⟨_, _, _, _, by5, _⟩ := hS5.yy
      obtain ⟨_, _, _, _, bs5, _⟩ := hS5.ss
      obtain ⟨_, _, _, _, bt5, _⟩ := hS5.tt
      have e1 := hS5.set_x HD.out (J6.out.below HB5.out)
      have e2 := e1.set_y HD.out (hS5.iv_px (J1.out.below HB5.out) _ _)
      have e3 := e2.set_s HD.out (e1.iv_py (hS5.iv_px i8 _ _) _ _)
      have e4 := e3.set_t HD.out (e2.iv_ps (e1.iv_py (hS5.iv_px (J3.out.below HB5.out) _ _) _ _) _ _)
      have E4 := Lib.hid e4
      have fx0 := bx5.free 0
      have fx1 := bx5.free 1
      have fy0 := by5.free 0
      have fy1 := by5.free 1
      have fs0 := bs5.free 0
      have fs1 := bs5.free 1
      have ft0 := bt5.free 0
      have ft1 := bt5.free 1
      obtain ⟨kr0, kr1, kx0, kx1, kt0, kt1, kq0, kq1, ks0, ks1⟩ := k5
      have ky0 := by5.cell0
      have ky1 := by5.cell1
      have d1 := HD.out.xy
      have d2 := HD.out.xs
      have d3 := HD.out.xt
      have d4 := HD.out.ys
      have d5 := HD.out.yt
      have d6 := HD.out.st
      clear e1 e2 e3 e4 hS5 bx5 by5 bs5 bt5 i7 i8 k4 hHeld q0 q1 r0 r1 x0 x1 s0 s1 t0 t1
      go_wp2_with fail
      go_roundw
      case rel =>
        exact ⟨_, _, _, _, HIN, E4⟩
      case measure =>
        rw [HMZ.out _ _ E4.out.xx, HMZ.out _ _ hS.out.xx]
        have h1 := hI.out.x0
        have h2 := HX0.out
        have h3 := HIN.out.x0
        have h4 := Int.emod_lt_of_pos Y (show 0 < X by omega)
        omega
end Go.Proofs.YtgljdfblgpdaaaaGreatDoor
