import Derived.Test.YtgljdfblgpdaaaaGreatDoorFiRatQ
set_option linter.unusedSimpArgs false
set_option linter.unusedVariables false
set_option maxRecDepth 100000
set_option maxHeartbeats 4000000
namespace Go.Proofs.YtgljdfblgpdaaaaGreatDoor
open Go.RowKit Go.Shelf
variable {i j : Nat} {w : World}
theorem Same_jv {n m : Bool} {A B : Option Addr} {c d : Nat} {l k : List Nat} {x : Int} (h : JV i w n A c l x) (h2 : JV j w m B d k x) (hi : i ≤ 4000000) (hj : j ≤ 4000000) :
  Calls Tryz.prog 17 #[.agg #[.bool n, .slice A l.length c], .agg #[.bool m, .slice B k.length d]] w fun e w' => e = .returned (.bool true) ∧ Below w.heap.size w w' := by
 have e1 := h.len
 have e2 := h2.len
 exact same_of h.ws h2.ws h.can h2.can h.val h2.val (by omega) (by omega)
theorem QSame_w {a b : QW} {q : Rat} (h : QV i w a q) (h2 : QV j w b q) (hM : i ≤ 4000000 ∧ j ≤ 4000000) :
  Calls Tryz.prog 32 #[.agg #[.bool a.n, .slice a.A a.l.length a.c, .bool a.m, .slice a.B a.k.length a.d], .agg #[.bool b.n, .slice b.A b.l.length b.c, .bool b.m, .slice b.B b.k.length b.d]] w fun e w' => e = .returned (.bool true) ∧ Below w.heap.size w w' := by
 have H1 := Hi h
 have H2 := Hi h2
 have HM := Hi hM
 clear h h2 hM
 obtain ⟨W1, hW1, hw1, x0, x1⟩ := hdQQ w a.n a.A a.c a.l a.m a.B a.d a.k b.n b.A b.c b.l b.m b.B b.d b.k
 go_enter Tryz.func32, Tryz.ntmps32
 go_wp2_with fail
 rw [← hW1]
 clear hW1
 refine (Same_jv (H1.out.num.below hw1) (H2.out.num.below hw1) HM.out.1 HM.out.2).mono ?_
 rintro e wa ⟨rfl, hb⟩
 replace x0 := x0.below hb
 replace x1 := x1.below hb
 have hw1_ := bt hw1 hb
 clear hb hw1
 refine g01 ?_
 intros
 refine (Same_jv (H1.out.den.below hw1_) (H2.out.den.below hw1_) HM.out.1 HM.out.2).mono ?_
 rintro e wb ⟨rfl, hb⟩
 replace x0 := x0.below hb
 replace x1 := x1.below hb
 exact mafd61
theorem QSame_we {a b : QW} {q r : Rat} (h : QV i w a q) (h2 : QV j w b r) (hq : q = r) (hi : i ≤ 4000000) (hj : j ≤ 4000000) :
  Calls Tryz.prog 32 #[.agg #[.bool a.n, .slice a.A a.l.length a.c, .bool a.m, .slice a.B a.k.length a.d], .agg #[.bool b.n, .slice b.A b.l.length b.c, .bool b.m, .slice b.B b.k.length b.d]] w fun e w' => e = .returned (.bool true) ∧ Below w.heap.size w w' := by
 subst hq
 exact QSame_w h h2 ⟨hi, hj⟩
end Go.Proofs.YtgljdfblgpdaaaaGreatDoor
