import Derived.Test.YtgljdfblgpdaaaaGreatDoorPbNumInt
set_option linter.unusedSimpArgs false
set_option linter.unusedVariables false
set_option maxRecDepth 100000
set_option maxHeartbeats 4000000
namespace Go.Proofs.YtgljdfblgpdaaaaGreatDoor
open Go.RowKit
variable {A : Option Addr} {a w : World} {c : Nat} {l : List Nat} {n : Bool} {z : Int}
def IP (a w' : World) (n : Bool) (A : Option Addr) (c : Nat) (l : List Nat) (z : Int) : Prop := l.length ≤ c ∧ OwnS a w' A l ∧ isB n l = true ∧ zI n l = z
def QRes (a : World) (q r : Int) (er : Int) (e : Ending) (w' : World) : Prop :=
 ∃ n1 A1 c1 l1 n2 A2 c2 l2, e = .returned (.tuple #[.agg #[.bool n1, .slice A1 l1.length c1], .agg #[.bool n2, .slice A2 l2.length c2], .int .i64 er]) ∧ IP a w' n1 A1 c1 l1 q ∧ IP a w' n2 A2 c2 l2 r ∧ Below a.heap.size a w'
theorem IP.zero (a w : World) : IP a w false none 0 [] 0 := ⟨Nat.le_refl _, fun h => absurd rfl h, rfl, rfl⟩
theorem IP.below {a w w' : World} (h : IP a w n A c l z) (hb : Below w.heap.size w w') : IP a w' n A c l z := ⟨h.1, h.2.1.below hb, h.2.2⟩
theorem IP.mono {a a' w : World} (h : IP a' w n A c l z) (hs : a.heap.size ≤ a'.heap.size) : IP a w n A c l z := ⟨h.1, h.2.1.mono hs, h.2.2⟩
theorem IP.two (h : IP a w n A c l z) {p : Nat} (hp : p < a.heap.size) (x y : Value) : IP a ((w.setCell ⟨p, 0, none⟩ x).setCell ⟨p, 1, none⟩ y) n A c l z := ⟨h.1, h.2.1.two hp x y, h.2.2⟩
theorem ediv_signs (x y : Nat) (hy : 0 < y) :
  ((x : Int) / (y : Int) = ((x / y : Nat) : Int) ∧ (x : Int) % (y : Int) = ((x % y : Nat) : Int)) ∧
  ((x : Int) / -(y : Int) = -((x / y : Nat) : Int) ∧ (x : Int) % -(y : Int) = ((x % y : Nat) : Int)) ∧
  (x % y = 0 → (-(x : Int)) / (y : Int) = -((x / y : Nat) : Int) ∧ (-(x : Int)) % (y : Int) = 0 ∧ (-(x : Int)) / -(y : Int) = ((x / y : Nat) : Int) ∧ (-(x : Int)) % -(y : Int) = 0) ∧
  (x % y ≠ 0 → (-(x : Int)) / (y : Int) = -((x / y + 1 : Nat) : Int) ∧ (-(x : Int)) % (y : Int) = ((y - x % y : Nat) : Int) ∧ (-(x : Int)) / -(y : Int) = ((x / y + 1 : Nat) : Int) ∧ (-(x : Int)) % -(y : Int) = ((y - x % y : Nat) : Int)) := by
 have h1 : (x : Int) / (y : Int) = ((x / y : Nat) : Int) := by simp
 have h2 : (x : Int) % (y : Int) = ((x % y : Nat) : Int) := by simp
 have hd : ((x % y : Nat) : Int) + (y : Int) * ((x / y : Nat) : Int) = (x : Int) := by
  have := Nat.mod_add_div x y
  exact_mod_cast this
 have hlt := Nat.mod_lt x hy
 refine ⟨⟨h1, h2⟩, ⟨by rw [Int.ediv_neg, h1], by rw [Int.emod_neg, h2]⟩, fun h0 => ?_, fun h0 => ?_⟩
 ·have hu : (-(x : Int)) / (y : Int) = -((x / y : Nat) : Int) ∧ (-(x : Int)) % (y : Int) = 0 := by
   refine (Int.ediv_emod_unique (by omega)).2 ⟨?_, by omega, by omega⟩
   rw [h0] at hd
   rw [Int.mul_neg]
   omega
  exact ⟨hu.1, hu.2, by rw [Int.ediv_neg, hu.1]; omega, by rw [Int.emod_neg, hu.2]⟩
 ·have hu : (-(x : Int)) / (y : Int) = -((x / y + 1 : Nat) : Int) ∧ (-(x : Int)) % (y : Int) = ((y - x % y : Nat) : Int) := by
   refine (Int.ediv_emod_unique (by omega)).2 ⟨?_, by omega, by omega⟩
   have : (y : Int) * -((x / y + 1 : Nat) : Int) = -((y : Int) * ((x / y : Nat) : Int)) - (y : Int) := by
    rw [Int.mul_neg, Int.natCast_add, Int.mul_add]; simp; omega
   rw [this]
   omega
  exact ⟨hu.1, hu.2, by rw [Int.ediv_neg, hu.1]; omega, by rw [Int.emod_neg, hu.2]⟩
def DivOk (w : World) (A B : Option Addr) (c d : Nat) (l k : List Nat) : Prop :=
 ∀ W, Below w.heap.size w W → Calls Tryz.prog 86 #[.slice A l.length c, .slice B k.length d] W (DRes W (val l / val k) (val l % val k))
theorem Div_ok (a w : World) (na nb : Bool) (A B : Option Addr) (n c m d : Nat) (l k : List Nat) (hn : l.length = n) (hm : k.length = m) (hnm : n ≤ 1000000) (hmm : m ≤ 1000000) (hl : WS w A l) (hk : WS w B k) (hp : isB na l = true) (hq : isB nb k = true) (h0 : 0 < k.length) (hD : DivOk w A B c d l k) (hw : Below a.heap.size a w) :
  Calls Tryz.prog 13 #[.agg #[.bool na, .slice A n c], .agg #[.bool nb, .slice B m d]] w (QRes a (zI na l / zI nb k) (zI na l % zI nb k) 0) := by
 subst hn hm
 have HP := Hi hp
 have HQ := Hi hq
 have hv0 := val_pos (isB_top hq) h0
 have HE := Hi (ediv_signs (val l) (val k) hv0)
 have hkz : ((k.length : Int) == 0) = false := beq_eq_false_iff_ne.2 (by omega)
 clear hp hq
 go_enter Tryz.func13, Tryz.ntmps13
 go_wp2_with fail
 refine (both_any na nb A B _ c _ d l k true true _ rfl rfl (by omega) (by omega) (hl.below (ba (ba (ba (ba (b0 _) _) _) _) _)) (hk.below (ba (ba (ba (ba (b0 _) _) _) _) _)) HP.out HQ.out).mono ?_
 rintro e w1 ⟨rfl, hb⟩
 have hba : Box2 w1 w.heap.size (.bool na) (.slice A l.length c) := ((((Box2.new w (.bool na) (.slice A l.length c)).alloc _).alloc _).alloc _).below hb
 have hbb : Box2 w1 (w.heap.size + 1) (.bool nb) (.slice B k.length d) := by
  have := (((Box2.new (w.alloc (.cells #[.bool na, .slice A l.length c] 24)) (.bool nb) (.slice B k.length d)).alloc _).alloc _).below hb
  simpa using this
 have hq0 : Box2 w1 (w.heap.size + 1 + 1) (.bool false) (.slice none 0 0) := by
  have := ((Box2.new ((w.alloc (.cells #[.bool na, .slice A l.length c] 24)).alloc (.cells #[.bool nb, .slice B k.length d] 24)) (.bool false) (.slice none 0 0)).alloc _).below hb
  simpa using this
 have hr0 : Box2 w1 (w.heap.size + 1 + 1 + 1) (.bool false) (.slice none 0 0) := by
  have := (Box2.new (((w.alloc (.cells #[.bool na, .slice A l.length c] 24)).alloc (.cells #[.bool nb, .slice B k.length d] 24)).alloc (.cells #[.bool false, .slice none 0 0] 24)) (.bool false) (.slice none 0 0)).below hb
  simpa using this
 have hw1 : Below w.heap.size w w1 := bt (ba (ba (ba (ba (b0 _) _) _) _) _) hb
 have hsz : w.heap.size + 4 ≤ w1.heap.size := by have := hb.size; simp at this; omega
 obtain ⟨y0, y1⟩ := hba.cs
 obtain ⟨y2, y3⟩ := hbb.cs
 clear hb
 go_wp2_with fail
 refine (hD w1 hw1).mono ?_
 rintro e w2 ⟨Aq, cq, lq, Ar, cr, lr, rfl, hcq, hoq, htq, hvq, hcr, hor, htr, hvr, hb2⟩
 have hlq := len_le htq hl.1 (by rw [hvq]; exact Nat.div_le_self _ _)
 have hlr := len_le htr hk.1 (by rw [hvr]; exact Nat.le_of_lt (Nat.mod_lt _ hv0))
 have hw2 : Below w.heap.size w w2 := bt hw1 hb2
 have hsz2 : w.heap.size + 4 ≤ w2.heap.size := Nat.le_trans hsz hb2.size
 have ga := hba.below hb2
 have gb := hbb.below hb2
 have gq := hq0.below hb2
 have gr := hr0.below hb2
 obtain ⟨z0, z1⟩ := ga.cs
 obtain ⟨z2, z3⟩ := gb.cs
 by_cases hcase : na = true ∧ lr ≠ []
 ·obtain ⟨rfl, hne⟩ := hcase
  have hlr0 : 0 < (lr.length : Int) := by have := List.length_pos_iff.2 hne; omega
  have hrne : val (l) % val k ≠ 0 := by rw [← hvr]; have := val_pos htr (by omega); omega
  have HV := Hi (And.intro hvq hvr)
  have HNE := Hi hrne
  clear hvq hvr hrne hne
  go_wp2_with fail
  have hone := Blk.new w2 [1] (by simp)
  rw [show (#[Value.int IntKind.u32 1] : Array Value) = words [1] from rfl]
  have hws1 := hone.ws (o := 0) (n := 1) (by simp)
  refine (sum_any w2 _ Aq (some ⟨w2.heap.size, 0, none⟩) lq.length cq 1 1 lq [1] rfl rfl (by omega) (by omega) (hoq.ws.below (ba (b0 _) _)) (by simpa using hws1) (ba (b0 _) _)).mono ?_
  rintro e w3 ⟨Aq2, cq2, lq2, rfl, hcq2, hoq2, htq2, hvq2, hb3⟩
  have hlq2 : lq2.length ≤ lq.length + 1 + 1 := len_sum htq2 hoq.ws.1 (k := [1]) (by simp) hvq2
  have HQ2 := Hi hvq2
  clear hvq2
  have gb3 := gb.below hb3
  obtain ⟨x2, x3⟩ := gb3.cs
  have ga3 := ga.below hb3
  obtain ⟨x0, x1⟩ := ga3.cs
  have hw3 := bt hw2 hb3
  go_wp2_with fail
  refine (difference_any w3 _ B Ar k.length d lr.length cr k lr rfl rfl (by omega) (by omega) (by rw [HV.out.2]; exact Nat.le_of_lt (Nat.mod_lt _ hv0)) (hk.below hw3) (hor.ws.below hb3) (b0 _)).mono ?_
  rintro e w3' ⟨Ar2, cr2, lr2, rfl, hcr2, hor2, htr2, hvr2, hb3'⟩
  have hlr2 := len_le htr2 hk.1 (by rw [hvr2]; omega)
  have HR2 := Hi hvr2
  clear hvr2
  have hb33 : Below w2.heap.size w2 w3' := bt hb3 hb3'
  have hoq3 : OwnS w2 w3' Aq2 lq2 := hoq2.below hb3'
  have hor3 : OwnS w2 w3' Ar2 lr2 := hor2.mono hb3.size
  have tq := gq.below hb33
  have tr := gr.below hb33
  have ta := ga.below hb33
  have tb := gb.below hb33
  have u0 := ta.cell0
  have u2 := tb.cell0
  go_wp2_with fail
  refine (signed_both w2 _ _ Aq2 cq2 lq2 (by omega) hcq2 hoq3 htq2 hb33).mono ?_
  rintro e w4 ⟨⟨n1, A1, c1, l1, rfl, hc1, ho1, hB1, hz1, hb4⟩, hc4⟩
  have I1 := Hi (show IP w2 w4 n1 A1 c1 l1 _ from ⟨hc1, ho1, hB1, hz1⟩)
  clear hc1 ho1 hB1 hz1
  go_wp2_with fail
  refine (signed_both w2 _ false Ar2 cr2 lr2 (by omega) hcr2 (hor3.below hc4) htr2 hb4).mono ?_
  rintro e w5 ⟨⟨n2, A2, c2, l2, rfl, hc2, ho2, hB2, hz2, hb5⟩, hc5⟩
  have I2 := Hi (show IP w2 w5 n2 A2 c2 l2 _ from ⟨hc2, ho2, hB2, hz2⟩)
  clear hc2 ho2 hB2 hz2
  have sq := tq.below (bt hc4 hc5)
  have sr := tr.below (bt hc4 hc5)
  obtain ⟨p0, p1⟩ := sq.cs
  have pf0 := sq.free 0
  have pf1 := sq.free 1
  obtain ⟨p2, p3⟩ := sr.cs
  have pf2 := sr.free 0
  have pf3 := sr.free 1
  obtain ⟨k0, k1, k2⟩ := sq.back (.bool n1) (.slice A1 l1.length c1)
  have sr2 := box2_far sr (q := w.heap.size + 1 + 1) (by omega) (.bool n1) (.slice A1 l1.length c1)
  obtain ⟨p4, p5⟩ := sr2.cs
  have pf4 := sr2.free 0
  have pf5 := sr2.free 1
  obtain ⟨m0, m1, m2⟩ := sr2.back (.bool n2) (.slice A2 l2.length c2)
  go_wp2_with fail
  refine bodyPost_ret (v := .tuple #[.agg #[.bool n1, .slice A1 l1.length c1], .agg #[.bool n2, .slice A2 l2.length c2], .int .i64 0]) (by simp [results, Tryz.results13, go_sem, k0, k2, m0, m2]) rfl ?_
  refine ⟨n1, A1, c1, l1, n2, A2, c2, l2, rfl, ?_, ?_, b2 (b2 (bt hw (bt hw2 hb5)) (by have := hw.size; omega) _ _) (by have := hw.size; omega) _ _⟩
  ·have I := (((I1.out.below hc5).two (p := w.heap.size + 1 + 1) (by omega) (.bool n1) (.slice A1 l1.length c1)).two (p := w.heap.size + 1 + 1 + 1) (by omega) (.bool n2) (.slice A2 l2.length c2)).mono (bt hw hw2).size
   refine ⟨I.1, I.2.1, I.2.2.1, I.2.2.2.trans ?_⟩
   have h := HE.out.2.2.2 HNE.out
   have hv : val lq2 = val l / val k + 1 := by rw [HQ2.out, HV.out.1]; rfl
   cases nb <;> simp only [zI] <;> simp [hv, h.1, h.2.2.1]
  ·have I := ((I2.out.two (p := w.heap.size + 1 + 1) (by omega) (.bool n1) (.slice A1 l1.length c1)).two (p := w.heap.size + 1 + 1 + 1) (by omega) (.bool n2) (.slice A2 l2.length c2)).mono (bt hw hw2).size
   refine ⟨I.1, I.2.1, I.2.2.1, I.2.2.2.trans ?_⟩
   have h := HE.out.2.2.2 HNE.out
   have hv : val lr2 = val k - val l % val k := by rw [HR2.out, HV.out.2]
   cases nb <;> simp only [zI] <;> simp [hv, h.2.1, h.2.2.2]
 ·have hguard : (na && decide (0 < (lr.length : Int))) = false := by
   cases na
   ·rfl
   ·have : lr = [] := by
     rcases Classical.em (lr = []) with h | h
     ·exact h
     ·exact absurd ⟨rfl, h⟩ hcase
    subst this
    rfl
  have HV := Hi (And.intro hvq hvr)
  have HC := Hi hcase
  have hb22 : Below w2.heap.size w2 w2 := b0 _
  have hoq3 : OwnS w1 w2 Aq lq := hoq
  clear hvq hvr hcase
  rcases Bool.eq_false_or_eq_true na with hna | hna
  ·subst hna
   have hl0 : lr = [] := by
    rcases Classical.em (lr = []) with h | h
    ·exact h
    ·exact absurd ⟨rfl, h⟩ HC.out
   subst hl0
   clear hguard
   have tq := gq
   have tr := gr
   have ta := ga
   have tb := gb
   have u0 := ta.cell0
   have u2 := tb.cell0
   go_wp2_with fail
   refine (signed_both w1 _ _ Aq cq lq (by omega) hcq hoq htq hb2).mono ?_
   rintro e w4 ⟨⟨n1, A1, c1, l1, rfl, hc1, ho1, hB1, hz1, hb4⟩, hc4⟩
   have I1 := Hi (show IP w1 w4 n1 A1 c1 l1 _ from ⟨hc1, ho1, hB1, hz1⟩)
   clear hc1 ho1 hB1 hz1
   go_wp2_with fail
   refine (signed_both w1 _ false Ar cr [] (by omega) hcr (hor.below hc4) htr hb4).mono ?_
   rintro e w5 ⟨⟨n2, A2, c2, l2, rfl, hc2, ho2, hB2, hz2, hb5⟩, hc5⟩
   have I2 := Hi (show IP w1 w5 n2 A2 c2 l2 _ from ⟨hc2, ho2, hB2, hz2⟩)
   clear hc2 ho2 hB2 hz2
   have sq := tq.below (bt hc4 hc5)
   have sr := tr.below (bt hc4 hc5)
   obtain ⟨p0, p1⟩ := sq.cs
   have pf0 := sq.free 0
   have pf1 := sq.free 1
   obtain ⟨p2, p3⟩ := sr.cs
   have pf2 := sr.free 0
   have pf3 := sr.free 1
   obtain ⟨k0, k1, k2⟩ := sq.back (.bool n1) (.slice A1 l1.length c1)
   have sr2 := box2_far sr (q := w.heap.size + 1 + 1) (by omega) (.bool n1) (.slice A1 l1.length c1)
   obtain ⟨p4, p5⟩ := sr2.cs
   have pf4 := sr2.free 0
   have pf5 := sr2.free 1
   obtain ⟨m0, m1, m2⟩ := sr2.back (.bool n2) (.slice A2 l2.length c2)
   go_wp2_with fail
   refine bodyPost_ret (v := .tuple #[.agg #[.bool n1, .slice A1 l1.length c1], .agg #[.bool n2, .slice A2 l2.length c2], .int .i64 0]) (by simp [results, Tryz.results13, go_sem, k0, k2, m0, m2]) rfl ?_
   refine ⟨n1, A1, c1, l1, n2, A2, c2, l2, rfl, ?_, ?_, b2 (b2 (bt hw (bt hw1 hb5)) (by have := hw.size; omega) _ _) (by have := hw.size; omega) _ _⟩
   ·have I := (((I1.out.below hc5).two (p := w.heap.size + 1 + 1) (by omega) (.bool n1) (.slice A1 l1.length c1)).two (p := w.heap.size + 1 + 1 + 1) (by omega) (.bool n2) (.slice A2 l2.length c2)).mono (bt hw hw1).size
    refine ⟨I.1, I.2.1, I.2.2.1, I.2.2.2.trans ?_⟩
    have h := HE.out.2.2.1 (by rw [← HV.out.2]; rfl)
    have hv : val lq = val l / val k := HV.out.1
    cases nb <;> simp only [zI] <;> simp [hv, h.1, h.2.2.1]
   ·have I := ((I2.out.two (p := w.heap.size + 1 + 1) (by omega) (.bool n1) (.slice A1 l1.length c1)).two (p := w.heap.size + 1 + 1 + 1) (by omega) (.bool n2) (.slice A2 l2.length c2)).mono (bt hw hw1).size
    refine ⟨I.1, I.2.1, I.2.2.1, I.2.2.2.trans ?_⟩
    have h := HE.out.2.2.1 (by rw [← HV.out.2]; rfl)
    cases nb <;> simp only [zI] <;> simp [val, h.2.1, h.2.2.2]
  ·subst hna
   clear hguard
   have tq := gq
   have tr := gr
   have ta := ga
   have tb := gb
   have u0 := ta.cell0
   have u2 := tb.cell0
   go_wp2_with fail
   refine (signed_both w1 _ _ Aq cq lq (by omega) hcq hoq htq hb2).mono ?_
   rintro e w4 ⟨⟨n1, A1, c1, l1, rfl, hc1, ho1, hB1, hz1, hb4⟩, hc4⟩
   have I1 := Hi (show IP w1 w4 n1 A1 c1 l1 _ from ⟨hc1, ho1, hB1, hz1⟩)
   clear hc1 ho1 hB1 hz1
   go_wp2_with fail
   refine (signed_both w1 _ false Ar cr lr (by omega) hcr (hor.below hc4) htr hb4).mono ?_
   rintro e w5 ⟨⟨n2, A2, c2, l2, rfl, hc2, ho2, hB2, hz2, hb5⟩, hc5⟩
   have I2 := Hi (show IP w1 w5 n2 A2 c2 l2 _ from ⟨hc2, ho2, hB2, hz2⟩)
   clear hc2 ho2 hB2 hz2
   have sq := tq.below (bt hc4 hc5)
   have sr := tr.below (bt hc4 hc5)
   obtain ⟨p0, p1⟩ := sq.cs
   have pf0 := sq.free 0
   have pf1 := sq.free 1
   obtain ⟨p2, p3⟩ := sr.cs
   have pf2 := sr.free 0
   have pf3 := sr.free 1
   obtain ⟨k0, k1, k2⟩ := sq.back (.bool n1) (.slice A1 l1.length c1)
   have sr2 := box2_far sr (q := w.heap.size + 1 + 1) (by omega) (.bool n1) (.slice A1 l1.length c1)
   obtain ⟨p4, p5⟩ := sr2.cs
   have pf4 := sr2.free 0
   have pf5 := sr2.free 1
   obtain ⟨m0, m1, m2⟩ := sr2.back (.bool n2) (.slice A2 l2.length c2)
   go_wp2_with fail
   refine bodyPost_ret (v := .tuple #[.agg #[.bool n1, .slice A1 l1.length c1], .agg #[.bool n2, .slice A2 l2.length c2], .int .i64 0]) (by simp [results, Tryz.results13, go_sem, k0, k2, m0, m2]) rfl ?_
   refine ⟨n1, A1, c1, l1, n2, A2, c2, l2, rfl, ?_, ?_, b2 (b2 (bt hw (bt hw1 hb5)) (by have := hw.size; omega) _ _) (by have := hw.size; omega) _ _⟩
   ·have I := (((I1.out.below hc5).two (p := w.heap.size + 1 + 1) (by omega) (.bool n1) (.slice A1 l1.length c1)).two (p := w.heap.size + 1 + 1 + 1) (by omega) (.bool n2) (.slice A2 l2.length c2)).mono (bt hw hw1).size
    refine ⟨I.1, I.2.1, I.2.2.1, I.2.2.2.trans ?_⟩
    have h := HE.out
    have hv : val lq = val l / val k := HV.out.1
    cases nb
    ·show ((val lq : Nat) : Int) = (val l : Int) / (val k : Int)
     rw [hv, h.1.1]
    ·show -((val lq : Nat) : Int) = (val l : Int) / -(val k : Int)
     rw [hv, h.2.1.1]
   ·have I := ((I2.out.two (p := w.heap.size + 1 + 1) (by omega) (.bool n1) (.slice A1 l1.length c1)).two (p := w.heap.size + 1 + 1 + 1) (by omega) (.bool n2) (.slice A2 l2.length c2)).mono (bt hw hw1).size
    refine ⟨I.1, I.2.1, I.2.2.1, I.2.2.2.trans ?_⟩
    have h := HE.out
    have hv : val lr = val l % val k := HV.out.2
    cases nb
    ·show ((val lr : Nat) : Int) = (val l : Int) % (val k : Int)
     rw [hv, h.1.2]
    ·show ((val lr : Nat) : Int) = (val l : Int) % -(val k : Int)
     rw [hv, h.2.1.2]
open Go.RowKit
variable {A : Option Addr} {a w : World} {c : Nat} {l : List Nat} {n : Bool} {z : Int}
abbrev tv (p q u v : Nat) : Value := .agg #[.int .u64 (p : Int), .int .u64 (q : Int), .int .u64 (u : Int), .int .u64 (v : Int)]
theorem noTurn_any (w : World) : Calls Tryz.prog 193 #[] w fun e w' => e = .returned (tv 1 0 0 1) ∧ Below w.heap.size w w' := by
 go_enter Tryz.func193, Tryz.ntmps193
 go_wp2
 go_returns
 exact ⟨rfl, ba (b0 _) _⟩
theorem step_any (p q u v c : Nat) (w : World) (h1 : p < 18446744073709551616) (h2 : q < 18446744073709551616) (h3 : p + c * u < 18446744073709551616) (h4 : q + c * v < 18446744073709551616) :
  Calls Tryz.prog 194 #[tv p q u v, .int .u64 (c : Int)] w fun e w' => e = .returned (tv u v (p + c * u) (q + c * v)) ∧ Below w.heap.size w w' := by
 obtain ⟨x, hx⟩ : ∃ x, x = c * u := ⟨_, rfl⟩
 obtain ⟨y, hy⟩ : ∃ y, y = c * v := ⟨_, rfl⟩
 have ex : (c : Int) * (u : Int) = (x : Int) := by rw [hx]; simp
 have ey : (c : Int) * (v : Int) = (y : Int) := by rw [hy]; simp
 rw [← hx] at h3 ⊢
 rw [← hy] at h4 ⊢
 clear hx hy
 go_enter Tryz.func194, Tryz.ntmps194
 go_wp2
 go_returns
 exact ⟨by simp, ba (ba (b0 _) _) _⟩
theorem spread_any (a w : World) (A B : Option Addr) (n c m d : Nat) (l k : List Nat) (p q : Nat) (hn : l.length = n) (hm : k.length = m) (hn2 : n ≤ 1000000) (hm2 : m ≤ 1000000) (hl : WS w A l) (hk : WS w B k) (hp : p < 18446744073709551616) (hq : q < 18446744073709551616) (hw : Below a.heap.size a w) :
  Calls Tryz.prog 198 #[.slice A n c, .slice B m d, .int .u64 (p : Int), .int .u64 (q : Int)] w (Res a (val l * p + val k * q)) := by
 subst hn hm
 go_enter Tryz.func198, Tryz.ntmps198
 go_wp2_with fail
 refine (fromSingle_any w _ p hp (b0 _)).mono ?_
 rintro e w1 ⟨A1, c1, l1, rfl, hc1, ho1, ht1, hv1, hb1⟩
 have hl1 : l1.length ≤ 2 := top_len ht1 (by rw [hv1]; exact hp)
 have H1 := Hi hv1
 clear hv1
 go_wp2_with fail
 refine (product_two w _ A A1 l.length c l1.length c1 l l1 rfl rfl hn2 (by omega) (hl.below hb1) ho1.ws hb1).mono ?_
 rintro e w2 ⟨A2, c2, l2, rfl, hc2, ho2, ht2, hv2, hb2⟩
 have hl2 : l2.length ≤ l.length + 2 := top_len ht2 (by rw [hv2, BB_add]; exact Nat.mul_lt_mul_of_lt_of_lt (val_lt hl.1) (by rw [H1.out]; exact hp))
 have H2 := Hi hv2
 clear hv2
 go_wp2_with fail
 refine (fromSingle_any w2 _ q hq (b0 _)).mono ?_
 rintro e w3 ⟨A3, c3, l3, rfl, hc3, ho3, ht3, hv3, hb3⟩
 have hl3 : l3.length ≤ 2 := top_len ht3 (by rw [hv3]; exact hq)
 have H3 := Hi hv3
 clear hv3
 have hw3 := bt hb2 hb3
 go_wp2_with fail
 refine (product_two w3 _ B A3 k.length d l3.length c3 k l3 rfl rfl hm2 (by omega) (hk.below hw3) ho3.ws (b0 _)).mono ?_
 rintro e w4 ⟨A4, c4, l4, rfl, hc4, ho4, ht4, hv4, hb4⟩
 have hl4 : l4.length ≤ k.length + 2 := top_len ht4 (by rw [hv4, BB_add]; exact Nat.mul_lt_mul_of_lt_of_lt (val_lt hk.1) (by rw [H3.out]; exact hq))
 have H4 := Hi hv4
 clear hv4
 have hw4 := bt hw3 hb4
 go_wp2_with fail
 refine (sum_any a _ A2 A4 l2.length c2 l4.length c4 l2 l4 rfl rfl (by omega) (by omega) (ho2.ws.below (bt hb3 hb4)) ho4.ws (bt hw hw4)).mono ?_
 rintro e w5 ⟨A5, c5, l5, rfl, hc5, ho5, ht5, hv5, hb5⟩
 have H5 := Hi hv5
 clear hv5
 go_wp2_with fail
 go_ret
 exact ⟨A5, c5, l5, rfl, hc5, ho5, ht5, by rw [H5.out, H2.out, H4.out, H1.out, H3.out], hb5⟩
end Go.Proofs.YtgljdfblgpdaaaaGreatDoor
