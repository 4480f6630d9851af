import Derived.Test.YtgljdfblgpdaaaaGreatDoorCoRefW
import Derived.Test.YtgljdfblgpdaaaaGreatDoorCoNumBackV
set_option linter.unusedSimpArgs false
set_option linter.unusedVariables false
set_option maxRecDepth 100000
set_option maxHeartbeats 4000000
namespace Go.Proofs.YtgljdfblgpdaaaaGreatDoor
open Go.RowKit Go.Shelf
variable {N V : Nat} {T x y : Int}
theorem PwI.even {V N q : Nat} (h : PwI V N (2 * q) x y T) : PwI V N q x (y * y) T := by
 refine ⟨?_, h.pos, h.fit⟩
 rw [sq_pow, ← h.eq]
theorem PwI.last (h : PwI V N (2 * 0 + 1) x y T) : PwI V N 0 (x * y) y T := by
 refine ⟨?_, h.pos, h.fit⟩
 have := h.eq
 rw [show 2 * 0 + 1 = 0 + 1 from rfl, Int.pow_succ] at this
 rw [← this, Int.pow_zero, Int.one_mul, Int.mul_one]
theorem RPow_main {w : World} {neg : Bool} {A : Option Addr} {c : Nat} {l : List Nat} {z : Int} {n : Nat} (ia : IV w neg A c l z) (h1 : 1 < bl l) (h2 : n ≤ 1048576 / bl l) (hfit : ∀ m, m ≤ n → val l ^ m < BB 200) :
  Calls Tryz.prog 117 #[.agg #[.bool neg, .slice A l.length c], .int .i64 (n : Int)] w (RIE w (z ^ n)) := by
 have ea := ia.len
 have hB := ia.can
 have hl := ia.ws
 obtain ⟨m, hme⟩ : ∃ m, m = bl l := ⟨_, rfl⟩
 have HFIT := Hi hfit
 have HB := Hi hB
 have HBI : Hid (∀ W, Below w.heap.size w W → Calls Tryz.prog 113 #[.agg #[.bool neg, .slice A l.length c]] W fun e w' => e = .returned (.int .i64 (m : Int)) ∧ Below W.heap.size W w') := Hi (fun W hW => by
  have r := RBits_any neg A l.length c l true W rfl (by omega) (hl.below hW) hB
  rw [if_pos rfl, ← hme] at r
  exact r)
 have HBLP := Hi h1
 rw [← hme] at h1 h2
 have hbi : (1 : Int) < (m : Int) := by omega
 have hm0 : ((m : Int) == 0) = false := beq_eq_false_iff_ne.2 (by omega)
 have hm2 : ¬ (m : Int) < 2 := by omega
 have hnn : ¬ (n : Int) < 0 := by omega
 obtain ⟨d, hd⟩ : ∃ d, d = 1048576 / m := ⟨_, rfl⟩
 have hdl : d ≤ 1048576 := by rw [hd]; exact Nat.div_le_self _ _
 have hdiv : (1048576 : Int).tdiv (m : Int) = (d : Int) := by rw [Int.tdiv_eq_ediv_of_nonneg (by omega), hd]; simp
 rw [← hd] at h2
 have hng : ¬ (d : Int) < (n : Int) := by omega
 have hn20 : n ≤ 1048576 := by omega
 have HIA := Hi ia
 clear ia hfit hB hme hd h1 h2
 go_enter Tryz.func117, Tryz.ntmps117
 go_wp2_with fail
 refine (RIs_any neg A _ c l _ rfl (by omega) (hl.below (ba (ba (b0 _) _) _))).mono ?_
 rintro e w1 ⟨rfl, hb⟩
 rw [HB.out]
 have hbx := (Box2.new (w.alloc (.cells #[.bool neg, .slice A l.length c] 24)) (.bool false) (.slice none 0 0)).below hb
 rw [World.size_alloc] at hbx
 have hby := ((Box2.new w (.bool neg) (.slice A l.length c)).alloc (.cells #[.bool false, .slice none 0 0] 24)).below hb
 have hK := bt (ba (ba (b0 w) _) _) hb
 clear hb
 obtain ⟨y0, y1⟩ := hby.cs
 go_wp2_with fail
 refine (HBI.out w1 hK).mono ?_
 rintro e w2 ⟨rfl, hb2⟩
 replace hbx := hbx.below hb2
 replace hby := hby.below hb2
 replace hK := bt hK hb2
 clear y0 y1 hb2
 obtain ⟨w1, hw1⟩ : ∃ v, v = w2 := ⟨_, rfl⟩
 rw [← hw1] at hbx hby hK ⊢
 clear hw1 w2
 obtain ⟨y0, y1⟩ := hby.cs
 go_wp2_with fail
 refine (HBI.out w1 hK).mono ?_
 rintro e w2 ⟨rfl, hb2⟩
 replace hbx := hbx.below hb2
 replace hby := hby.below hb2
 replace hK := bt hK hb2
 clear y0 y1 hb2
 obtain ⟨w1, hw1⟩ : ∃ v, v = w2 := ⟨_, rfl⟩
 rw [← hw1] at hbx hby hK ⊢
 clear hw1 w2
 obtain ⟨y0, y1⟩ := hby.cs
 go_wp2_with fail
 refine (HBI.out w1 hK).mono ?_
 rintro e w2 ⟨rfl, hb2⟩
 replace hbx := hbx.below hb2
 replace hby := hby.below hb2
 replace hK := bt hK hb2
 clear y0 y1 hb2
 obtain ⟨w1, hw1⟩ : ∃ v, v = w2 := ⟨_, rfl⟩
 rw [← hw1] at hbx hby hK ⊢
 clear hw1 w2
 obtain ⟨y0, y1⟩ := hby.cs
 go_upto_region 11 with fail
 have HBX := Hi hbx
 have HBY := Hi hby
 have HK := Hi hK
 have hws := hl.below hK
 have HWS := Hi hws
 have hxs := hbx.lt
 clear hbx hby hK hws
 go_cut [6, 7] (fun s t wx => PwAt w1 1 z s t wx)
 case first =>
  as_aux_lemma =>
  have S5 : ∀ W, Below w1.heap.size w1 W → W.cell? ⟨w.heap.size, 0, none⟩ = some (.bool neg) ∧ W.cell? ⟨w.heap.size, 1, none⟩ = some (.slice A l.length c) := fun W hb => ⟨cell_below (HBY.out.cell0) hb, cell_below (HBY.out.cell1) hb⟩
  have HS5 := Hi S5
  clear S5
  go_region_held3 (fun W => W.cell? ⟨w.heap.size, 0, none⟩ = some (.bool neg) ∧ W.cell? ⟨w.heap.size, 1, none⟩ = some (.slice A l.length c))
   ((refine HS5.out _ ?_; (repeat (first | assumption | exact b0 _ | apply ba | apply bd | apply bw | (refine bs ?_ (by first | exact Nat.le_refl _ | (dsimp only; omega) | omega) _)))))
   (first
   | (go_at_call 59; refine (ROf_iv _ 1 (by omega) (by omega)).mono ?_; rintro e w6 ⟨n6, A6, c6, l6, rfl, i6, hb6⟩; have hc6 := i6.cap; have hB6 := i6.can; have hz6 := i6.val; have hw6 := i6.ws; obtain ⟨hcc6, hff6⟩ := bcell hb6; have hb56 : Below w1.heap.size w1 w6 := bt (by repeat (first | assumption | exact b0 _ | apply ba | apply bd | apply bw)) hb6; have sz6 := hb56.size; have sy6 := hb6.size; (try simp at sy6); (try have sw6 : w1.heap.size < w6.heap.size := by omega); (try have sv6 : w1.heap.size + 1 < w6.heap.size := by omega)))
  all_goals (go_wp2_with fail; go_meet)
  all_goals
   have hwa6 : WS w6 A l := HWS.out.below hb56
   have hcA := HIA.out.cap
   have hBA := HIA.out.can
   have hzA := HIA.out.val
   have g6 := fun (p : Nat) (h : Box2 w6 p (.bool false) (.slice none 0 0)) => ws_off_box h (by simp) hw6
   have G6 := fun (p : Nat) (h : w6.heap.size ≤ p) => hw6.off h
   have GA := fun (p : Nat) (h : w1.heap.size ≤ p) => HWS.out.off h
   refine ⟨_, _, rfl, rfl, n6, A6, c6, l6, neg, A, c, l, ?_, ?_, ⟨hc6, ?_, hB6, hz6, i6.len⟩, ⟨hcA, ?_, hBA, hzA, ea⟩, ?_, ?_, ?_, ?_⟩
   ·(repeat (first
     | with_reducible exact hw6
     | with_reducible exact hwa6
     | (with_reducible refine WS.below ?_ (ba (b0 _) _))
     | (with_reducible refine WS.two ?_ ?_ _ _)
     | (focus ((with_reducible refine Box2.new' ?_); (simp; done)))
     | (with_reducible refine Box2.alloc ?_ _)
     | (with_reducible refine Box2.stored' ?_ _ _)
     | (with_reducible refine Box2.far ?_ ?_ _ _)
     | (with_reducible refine Box2.below ?_ hb6)
     | exact G6 _ (by omega)
     | exact GA _ (by first | exact Nat.le_refl _ | omega)
     | (with_reducible refine g6 _ ?_)
     | omega
     | (focus (simp; done))
     | (with_reducible refine Box2.drew' ?_)))
   ·(repeat (first
     | with_reducible exact hw6
     | with_reducible exact hwa6
     | (with_reducible refine WS.below ?_ (ba (b0 _) _))
     | (with_reducible refine WS.two ?_ ?_ _ _)
     | (focus ((with_reducible refine Box2.new' ?_); (simp; done)))
     | (with_reducible refine Box2.alloc ?_ _)
     | (with_reducible refine Box2.stored' ?_ _ _)
     | (with_reducible refine Box2.far ?_ ?_ _ _)
     | (with_reducible refine Box2.below ?_ hb6)
     | exact G6 _ (by omega)
     | exact GA _ (by first | exact Nat.le_refl _ | omega)
     | (with_reducible refine g6 _ ?_)
     | omega
     | (focus (simp; done))
     | (with_reducible refine Box2.drew' ?_)))
   ·(repeat (first
     | with_reducible exact hw6
     | with_reducible exact hwa6
     | (with_reducible refine WS.below ?_ (ba (b0 _) _))
     | (with_reducible refine WS.two ?_ ?_ _ _)
     | (focus ((with_reducible refine Box2.new' ?_); (simp; done)))
     | (with_reducible refine Box2.alloc ?_ _)
     | (with_reducible refine Box2.stored' ?_ _ _)
     | (with_reducible refine Box2.far ?_ ?_ _ _)
     | (with_reducible refine Box2.below ?_ hb6)
     | exact G6 _ (by omega)
     | exact GA _ (by first | exact Nat.le_refl _ | omega)
     | (with_reducible refine g6 _ ?_)
     | omega
     | (focus (simp; done))
     | (with_reducible refine Box2.drew' ?_)))
   ·(repeat (first
     | with_reducible exact hw6
     | with_reducible exact hwa6
     | (with_reducible refine WS.below ?_ (ba (b0 _) _))
     | (with_reducible refine WS.two ?_ ?_ _ _)
     | (focus ((with_reducible refine Box2.new' ?_); (simp; done)))
     | (with_reducible refine Box2.alloc ?_ _)
     | (with_reducible refine Box2.stored' ?_ _ _)
     | (with_reducible refine Box2.far ?_ ?_ _ _)
     | (with_reducible refine Box2.below ?_ hb6)
     | exact G6 _ (by omega)
     | exact GA _ (by first | exact Nat.le_refl _ | omega)
     | (with_reducible refine g6 _ ?_)
     | omega
     | (focus (simp; done))
     | (with_reducible refine Box2.drew' ?_)))
   ·omega
   ·omega
   ·omega
   ·repeat (first | exact hb56 | (with_reducible refine ba ?_ _) | (with_reducible refine bs ?_ ?_ _))
    all_goals (first | exact Nat.le_refl _ | (dsimp only; omega) | omega)
 case rest =>
 obtain ⟨p, q, rfl, rfl, hpw⟩ := hcut
 obtain ⟨w8, hw8⟩ : ∃ v, v = wc := ⟨_, rfl⟩
 rw [← hw8] at hpw ⊢
 clear hw8 wc
 have HPW8 := Hi hpw
 have HPI : Hid (PwI 0 0 n 1 z (z ^ n)) := Hi (by
  have hv : val l = z.natAbs := by rw [← HIA.out.val]; unfold zI; split <;> simp
  have hzp : 0 < z.natAbs := by
   rw [← hv]
   rcases Nat.eq_zero_or_pos (val l) with h | h
   ·have h0 := (val_eq_zero (isB_top HIA.out.can)).1 h
    have := HBLP.out
    unfold bl at this
    rw [if_pos h0] at this
    omega
   ·exact h
  refine ⟨Int.one_mul _, ?_, ?_⟩
  ·rw [natAbs_pow']; exact Nat.pow_pos hzp
  ·rw [natAbs_pow', ← hv]; exact HFIT.out n (Nat.le_refl _))
 have hxs1 := HBX.out.lt
 have HBX8 := Hi (fun W (h : Below w1.heap.size w1 W) => HBX.out.below h)
 clear hpw y0 y1
 go_wp2_with fail
 go_loopw [1] (fun nv wr => ∃ (m : Nat) (x y : Int), nv = .int .i64 (m : Int) ∧ m ≤ n ∧ Hid (PwI 0 0 m x y (z ^ n)) ∧ Hid (PwB w1 p q x y wr)) (fun nv _ => (intOf nv).toNat)
 case atStart => exact ⟨n, 1, z, rfl, Nat.le_refl _, HPI, HPW8⟩
 case round =>
  clear HPI HPW8
  obtain ⟨m', x, y, rfl, hmn, hI, hP⟩ := hrel
  obtain ⟨n1, A1, c1, l1, n2, A2, c2, l2, bp, bq, i1, i2, hne, hp, hq, hbl⟩ := hP.out
  obtain ⟨p0, p1⟩ := bp.cs
  obtain ⟨q0, q1⟩ := bq.cs
  rcases Nat.eq_zero_or_pos m' with rfl | hm0
  ·have bx := HBX8.out _ hbl
   obtain ⟨x0, x1⟩ := bx.cs
   have f0 := bx.free 0
   have f1 := bx.free 1
   obtain ⟨k0, k1, k2⟩ := bx.back (.bool n1) (.slice A1 l1.length c1)
   have hx : x = z ^ n := by
    have := hI.out.eq
    rwa [Int.pow_zero, Int.mul_one] at this
   have i1' := i1.two bx (.bool n1) (.slice A1 l1.length c1)
   rw [hx] at i1'
   have HI1 := Hi i1'
   have HBL := Hi (bt HK.out hbl)
   clear hx i1 i2 i1' bp bq hbl
   go_wp2_with fail
   refine bodyPost_ret (v := .tuple #[.agg #[.bool n1, .slice A1 l1.length c1], .int .i64 0]) (by simp [results, Tryz.results117, go_sem, k0, k2]) rfl ?_
   exact ⟨n1, A1, c1, l1, rfl, HI1.out, b2 HBL.out (by omega) _ _⟩
  ·have hmi : (0 : Int) < (m' : Int) := by omega
   obtain ⟨q', hq'⟩ : ∃ q', q' = m' / 2 := ⟨_, rfl⟩
   have hdv : (m' : Int).tdiv 2 = (q' : Int) := by rw [Int.tdiv_eq_ediv_of_nonneg (by omega), hq']; simp
   have hdv2 : (m' : Int) / 2 = (q' : Int) := by rw [hq']; simp
   rcases Nat.mod_two_eq_zero_or_one m' with hpar | hpar
   ·obtain rfl : m' = 2 * q' := by omega
    have hmod : ((2 * q' : Nat) : Int).tmod 2 = 0 := by rw [Int.tmod_eq_emod_of_nonneg (by omega)]; omega
    have hmod2 : ((2 * q' : Nat) : Int) % 2 = 0 := by omega
    have hlt2 : Lt 300 (y * y) := by
     have h := (hI.out.le (j := 2) (by omega) (by omega)).2
     unfold Lt
     rw [Int.natAbs_mul, ← Nat.pow_two]
     exact Nat.lt_of_lt_of_le h (BB_mono (by omega))
    obtain ⟨mm, hmm⟩ : ∃ mm, mm = 2 * q' := ⟨_, rfl⟩
    have hqi : (0 : Int) < (q' : Int) := by omega
    rw [← hmm] at hmi hdv hdv2 hmod hmod2 hmn ⊢
    have HMM := Hi hmm
    have HLT2 := Hi hlt2
    have HBQ := Hi bq
    have i5 := i2
    rw [← hmm] at hI
    clear hmm hq' hlt2 bp bq i1 i2 hpar
    go_wp2_with fail
    refine (RMul_iv i5 i5 rfl HLT2.out).mono ?_
    rintro e w4 ⟨n4, A4, c4, l4, rfl, i4, hb4⟩
    have bq4 := HBQ.out.below hb4
    obtain ⟨r0, r1⟩ := bq4.cs
    have g0 := bq4.free 0
    have g1 := bq4.free 1
    have HP4 := Hi (hP.out.set_q hb4 i4)
    clear i4 i5 bq4 hb4
    go_wp2_with fail
    go_roundw
    case rel =>
     refine ⟨q', x, y * y, rfl, by omega, ?_, HP4⟩
     have h := hI.out
     rw [HMM.out] at h
     exact Hi h.even
    case measure => have := HMM.out; simp [intOf]; omega
   ·obtain rfl : m' = 2 * q' + 1 := by omega
    have hmod : ((2 * q' + 1 : Nat) : Int).tmod 2 = 1 := by rw [Int.tmod_eq_emod_of_nonneg (by omega)]; omega
    have hmod2 : ((2 * q' + 1 : Nat) : Int) % 2 = 1 := by omega
    have hlt1 : Lt 300 (x * y) := by
     have h := (hI.out.le (j := 1) (by omega) (by omega)).1
     unfold Lt
     rw [Int.natAbs_mul, ← Nat.pow_one y.natAbs]
     exact Nat.lt_of_lt_of_le h (BB_mono (by omega))
    obtain ⟨mm, hmm⟩ : ∃ mm, mm = 2 * q' + 1 := ⟨_, rfl⟩
    rw [← hmm] at hmi hdv hdv2 hmod hmod2 hmn ⊢
    have HMM := Hi hmm
    have HI1 := Hi i1
    have HI2 := Hi i2
    have HLT1 := Hi hlt1
    have HBP := Hi bp
    have HBQ := Hi bq
    rw [← hmm] at hI
    clear hmm hq' hlt1 bp bq i1 i2 hpar
    go_wp2_with fail
    refine (RMul_iv HI1.out HI2.out rfl HLT1.out).mono ?_
    rintro e w2 ⟨n3, A3, c3, l3, rfl, i3, hb2⟩
    have HP3 := Hi (hP.out.set_p hb2 i3)
    have bp2 := HBP.out.below hb2
    obtain ⟨s0, s1⟩ := bp2.cs
    have f0 := bp2.free 0
    have f1 := bp2.free 1
    have bq2 := HBQ.out.below hb2
    obtain ⟨t0, t1⟩ := bq2.cs
    have bq3 := bq2.far (fun e => hne e.symm) (.bool n3) (.slice A3 l3.length c3)
    obtain ⟨v0, v1⟩ := bq3.cs
    clear i3 p0 p1 q0 q1
    rcases Nat.eq_zero_or_pos q' with rfl | hq0
    ·go_wp2_with fail
     go_roundw
     case rel =>
      refine ⟨0, x * y, y, rfl, by omega, ?_, HP3⟩
      have h := hI.out
      rw [HMM.out] at h
      exact Hi h.last
     case measure => simp [intOf]; omega
    ·have hqi : (0 : Int) < (q' : Int) := by omega
     go_wp2_with fail
     have hlt2 : Lt 300 (y * y) := by
      have h := (hI.out.le (j := 2) (by have := HMM.out; omega) (by have := HMM.out; omega)).2
      unfold Lt
      rw [Int.natAbs_mul, ← Nat.pow_two]
      exact Nat.lt_of_lt_of_le h (BB_mono (by omega))
     have HLT2 := Hi hlt2
     have i5 := (HI2.out.below hb2).two bp2 (.bool n3) (.slice A3 l3.length c3)
     clear hlt2 s0 s1 f0 f1 t0 t1 v0 v1
     refine (RMul_iv i5 i5 rfl HLT2.out).mono ?_
     rintro e w4 ⟨n4, A4, c4, l4, rfl, i4, hb4⟩
     have bq4 := bq3.below hb4
     obtain ⟨r0, r1⟩ := bq4.cs
     have g0 := bq4.free 0
     have g1 := bq4.free 1
     have HP4 := Hi (HP3.out.set_q hb4 i4)
     clear i4 i5 bq4 hb4
     go_wp2_with fail
     go_roundw
     case rel =>
      refine ⟨q', x * y, y * y, rfl, by omega, ?_, HP4⟩
      have h := hI.out
      rw [HMM.out] at h
      exact Hi h.odd
     case measure => have := HMM.out; simp [intOf]; omega
open Go.RowKit Go.Shelf
variable {A : Option Addr} {c : Nat} {l : List Nat} {w : World} {z : Int}
theorem mde904 {P : Prop} (h : P := by
 have bx := hbx.below hb3
 obtain ⟨x0, x1⟩ := bx.cs
 have f0 := bx.free 0
 have f1 := bx.free 1
 obtain ⟨k0, k1, k2⟩ := bx.back (.bool n3) (.slice A3 l3.length c3)
 have HI1 := Hi (i3.two bx (.bool n3) (.slice A3 l3.length c3))
 have HBL := Hi (bt hK hb3)
 clear i3
 go_wp2_with fail
 refine bodyPost_ret (v := .tuple #[.agg #[.bool n3, .slice A3 l3.length c3], .int .i64 0]) (by simp [results, Tryz.results117, go_sem, k0, k2]) rfl ?_
 exact ⟨n3, A3, c3, l3, rfl, HI1.out, b2 HBL.out (by omega) _ _⟩) : P := h
theorem m05025 {P : Prop} (h : P := by
 rintro e w3 ⟨n3, A3, c3, l3, rfl, hc3, hs3, hB3, hz3, hb3⟩
 have i3 : IV w3 n3 A3 c3 l3 (zI true l ^ n) := ⟨hc3, hs3, hB3, hz3.trans HZ.out, top_len (isB_top hB3) (by
  have h := val_abs hz3
  rw [h, HVV.out]
  have := BB_mono (show 1 ≤ 300 by omega)
  have e : BB 1 = 4294967296 := by decide
  have := HV1.out
  omega)⟩
 clear hc3 hs3 hB3 hz3
 exact mde904) : P := h
theorem RPow_s_true_0 (n : Nat) (hn0 : 0 < n) (hpar : n % 2 = 0) (ia : IV w true A c l z) (h1 : bl l < 2) (hv1 : val l ≤ 1) :
  Calls Tryz.prog 117 #[.agg #[.bool true, .slice A l.length c], .int .i64 (n : Int)] w (RIE w (z ^ n)) := by
 have ea := ia.len
 have hB := ia.can
 have hl := ia.ws
 have hca := ia.cap
 obtain ⟨m, hme⟩ : ∃ m, m = bl l := ⟨_, rfl⟩
 have HB := Hi hB
 have HBI : Hid (∀ W, Below w.heap.size w W → Calls Tryz.prog 113 #[.agg #[.bool true, .slice A l.length c]] W fun e w' => e = .returned (.int .i64 (m : Int)) ∧ Below W.heap.size W w') := Hi (fun W hW => by
  have r := RBits_any true A l.length c l true W rfl (by omega) (hl.below hW) hB
  rw [if_pos rfl, ← hme] at r
  exact r)
 rw [← hme] at h1
 have hbi : ¬ (1 : Int) < (m : Int) := by omega
 have hm2 : (m : Int) < 2 := by omega
 have HV1 := Hi hv1
 have HVV : Hid ((zI false l).natAbs = val l) := Hi (by unfold zI; simp)
 have hnn : ¬ (n : Int) < 0 := by omega
 have hnz : ((n : Int) == 0) = false := beq_eq_false_iff_ne.2 (by omega)
 have hmod : (n : Int).tmod 2 = 0 := by rw [Int.tmod_eq_emod_of_nonneg (by omega)]; omega
 have hmod2 : (n : Int) % 2 = 0 := by omega
 have HZ : Hid (zI false l = zI true l ^ n) := Hi (by
  have h := zI_pow true l l n (by
   rcases (show val l = 0 ∨ val l = 1 by omega) with h | h
   ·rw [h, Nat.zero_pow hn0]
   ·rw [h, Nat.one_pow])
  rw [hpar] at h
  exact h)
 clear hn0 hpar
 obtain rfl := ia.val
 clear ia hB hme h1 hv1
 go_enter Tryz.func117, Tryz.ntmps117
 go_wp2_with fail
 refine (RIs_any true A _ c l _ rfl (by omega) (hl.below (ba (ba (b0 _) _) _))).mono ?_
 rintro e w1 ⟨rfl, hb⟩
 rw [HB.out]
 have hbx := (Box2.new (w.alloc (.cells #[.bool true, .slice A l.length c] 24)) (.bool false) (.slice none 0 0)).below hb
 rw [World.size_alloc] at hbx
 have hby := ((Box2.new w (.bool true) (.slice A l.length c)).alloc (.cells #[.bool false, .slice none 0 0] 24)).below hb
 have hK := bt (ba (ba (b0 w) _) _) hb
 clear hb
 obtain ⟨y0, y1⟩ := hby.cs
 go_wp2_with fail
 refine (HBI.out w1 hK).mono ?_
 rintro e w2 ⟨rfl, hb2⟩
 replace hbx := hbx.below hb2
 replace hby := hby.below hb2
 replace hK := bt hK hb2
 clear y0 y1 hb2
 obtain ⟨w1, hw1⟩ : ∃ v, v = w2 := ⟨_, rfl⟩
 rw [← hw1] at hbx hby hK ⊢
 clear hw1 w2
 obtain ⟨y0, y1⟩ := hby.cs
 go_wp2_with fail
 refine (HBI.out w1 hK).mono ?_
 rintro e w2 ⟨rfl, hb2⟩
 replace hbx := hbx.below hb2
 replace hby := hby.below hb2
 replace hK := bt hK hb2
 clear y0 y1 hb2
 obtain ⟨w1, hw1⟩ : ∃ v, v = w2 := ⟨_, rfl⟩
 rw [← hw1] at hbx hby hK ⊢
 clear hw1 w2
 obtain ⟨y0, y1⟩ := hby.cs
 go_wp2_with fail
 refine (Rmade_any w1 w1 false A l.length c l rfl (by omega) hca (hl.below hK) (b0 _)).mono ?_
 exact m05025
theorem RPow_s_true_1 (n : Nat) (hn0 : 0 < n) (hpar : n % 2 = 1) (ia : IV w true A c l z) (h1 : bl l < 2) (hv1 : val l ≤ 1) :
  Calls Tryz.prog 117 #[.agg #[.bool true, .slice A l.length c], .int .i64 (n : Int)] w (RIE w (z ^ n)) := by
 have ea := ia.len
 have hB := ia.can
 have hl := ia.ws
 have hca := ia.cap
 obtain ⟨m, hme⟩ : ∃ m, m = bl l := ⟨_, rfl⟩
 have HB := Hi hB
 have HBI : Hid (∀ W, Below w.heap.size w W → Calls Tryz.prog 113 #[.agg #[.bool true, .slice A l.length c]] W fun e w' => e = .returned (.int .i64 (m : Int)) ∧ Below W.heap.size W w') := Hi (fun W hW => by
  have r := RBits_any true A l.length c l true W rfl (by omega) (hl.below hW) hB
  rw [if_pos rfl, ← hme] at r
  exact r)
 rw [← hme] at h1
 have hbi : ¬ (1 : Int) < (m : Int) := by omega
 have hm2 : (m : Int) < 2 := by omega
 have HV1 := Hi hv1
 have HVV : Hid ((zI true l).natAbs = val l) := Hi (by unfold zI; simp)
 have hnn : ¬ (n : Int) < 0 := by omega
 have hnz : ((n : Int) == 0) = false := beq_eq_false_iff_ne.2 (by omega)
 have hmod : (n : Int).tmod 2 = 1 := by rw [Int.tmod_eq_emod_of_nonneg (by omega)]; omega
 have hmod2 : (n : Int) % 2 = 1 := by omega
 have HZ : Hid (zI true l = zI true l ^ n) := Hi (by
  have h := zI_pow true l l n (by
   rcases (show val l = 0 ∨ val l = 1 by omega) with h | h
   ·rw [h, Nat.zero_pow hn0]
   ·rw [h, Nat.one_pow])
  rw [hpar] at h
  exact h)
 clear hn0 hpar
 obtain rfl := ia.val
 clear ia hB hme h1 hv1
 go_enter Tryz.func117, Tryz.ntmps117
 go_wp2_with fail
 refine (RIs_any true A _ c l _ rfl (by omega) (hl.below (ba (ba (b0 _) _) _))).mono ?_
 rintro e w1 ⟨rfl, hb⟩
 rw [HB.out]
 have hbx := (Box2.new (w.alloc (.cells #[.bool true, .slice A l.length c] 24)) (.bool false) (.slice none 0 0)).below hb
 rw [World.size_alloc] at hbx
 have hby := ((Box2.new w (.bool true) (.slice A l.length c)).alloc (.cells #[.bool false, .slice none 0 0] 24)).below hb
 have hK := bt (ba (ba (b0 w) _) _) hb
 clear hb
 obtain ⟨y0, y1⟩ := hby.cs
 go_wp2_with fail
 refine (HBI.out w1 hK).mono ?_
 rintro e w2 ⟨rfl, hb2⟩
 replace hbx := hbx.below hb2
 replace hby := hby.below hb2
 replace hK := bt hK hb2
 clear y0 y1 hb2
 obtain ⟨w1, hw1⟩ : ∃ v, v = w2 := ⟨_, rfl⟩
 rw [← hw1] at hbx hby hK ⊢
 clear hw1 w2
 obtain ⟨y0, y1⟩ := hby.cs
 go_wp2_with fail
 refine (HBI.out w1 hK).mono ?_
 rintro e w2 ⟨rfl, hb2⟩
 replace hbx := hbx.below hb2
 replace hby := hby.below hb2
 replace hK := bt hK hb2
 clear y0 y1 hb2
 obtain ⟨w1, hw1⟩ : ∃ v, v = w2 := ⟨_, rfl⟩
 rw [← hw1] at hbx hby hK ⊢
 clear hw1 w2
 obtain ⟨y0, y1⟩ := hby.cs
 go_wp2_with fail
 refine (Rmade_any w1 w1 true A l.length c l rfl (by omega) hca (hl.below hK) (b0 _)).mono ?_
 exact m05025
theorem mae28b {P : Prop} (h : P := by
 have hK := bt (ba (ba (b0 w) _) _) hb
 clear hb
 obtain ⟨y0, y1⟩ := hby.cs
 go_wp2_with fail
 refine (HBI.out w1 hK).mono ?_
 rintro e w2 ⟨rfl, hb2⟩
 replace hbx := hbx.below hb2
 replace hby := hby.below hb2
 replace hK := bt hK hb2
 clear y0 y1 hb2
 obtain ⟨w1, hw1⟩ : ∃ v, v = w2 := ⟨_, rfl⟩
 rw [← hw1] at hbx hby hK ⊢
 clear hw1 w2
 obtain ⟨y0, y1⟩ := hby.cs
 go_wp2_with fail
 refine (HBI.out w1 hK).mono ?_
 rintro e w2 ⟨rfl, hb2⟩
 replace hbx := hbx.below hb2
 replace hby := hby.below hb2
 replace hK := bt hK hb2
 clear y0 y1 hb2
 obtain ⟨w1, hw1⟩ : ∃ v, v = w2 := ⟨_, rfl⟩
 rw [← hw1] at hbx hby hK ⊢
 clear hw1 w2
 obtain ⟨y0, y1⟩ := hby.cs
 go_wp2_with fail
 refine (ROf_iv w1 1 (by omega) (by omega)).mono ?_
 rintro e w3 ⟨n3, A3, c3, l3, rfl, i3, hb3⟩
 exact mde904) : P := h
theorem RPow_z_true (ia : IV w true A c l z) (h1 : bl l < 2) (hv1 : val l ≤ 1) :
  Calls Tryz.prog 117 #[.agg #[.bool true, .slice A l.length c], .int .i64 0] w (RIE w (1)) := by
 have ea := ia.len
 have hB := ia.can
 have hl := ia.ws
 have hca := ia.cap
 obtain ⟨m, hme⟩ : ∃ m, m = bl l := ⟨_, rfl⟩
 have HB := Hi hB
 have HBI : Hid (∀ W, Below w.heap.size w W → Calls Tryz.prog 113 #[.agg #[.bool true, .slice A l.length c]] W fun e w' => e = .returned (.int .i64 (m : Int)) ∧ Below W.heap.size W w') := Hi (fun W hW => by
  have r := RBits_any true A l.length c l true W rfl (by omega) (hl.below hW) hB
  rw [if_pos rfl, ← hme] at r
  exact r)
 rw [← hme] at h1
 have hbi : ¬ (1 : Int) < (m : Int) := by omega
 have hm2 : (m : Int) < 2 := by omega
 have HV1 := Hi hv1
 have HVV : Hid ((zI false l).natAbs = val l) := Hi (by unfold zI; simp)
 obtain rfl := ia.val
 clear ia hB hme h1 hv1
 go_enter Tryz.func117, Tryz.ntmps117
 go_wp2_with fail
 refine (RIs_any true A _ c l _ rfl (by omega) (hl.below (ba (ba (b0 _) _) _))).mono ?_
 rintro e w1 ⟨rfl, hb⟩
 rw [HB.out]
 have hbx := (Box2.new (w.alloc (.cells #[.bool true, .slice A l.length c] 24)) (.bool false) (.slice none 0 0)).below hb
 rw [World.size_alloc] at hbx
 have hby := ((Box2.new w (.bool true) (.slice A l.length c)).alloc (.cells #[.bool false, .slice none 0 0] 24)).below hb
 exact mae28b
theorem m8b219 {P : Prop} (h : P := by
 have HZ : Hid (zI false l = zI false l ^ n) := Hi (by
  have h := zI_pow false l l n (by
   rcases (show val l = 0 ∨ val l = 1 by omega) with h | h
   ·rw [h, Nat.zero_pow hn0]
   ·rw [h, Nat.one_pow])
  rw [hpar] at h
  exact h)
 clear hn0 hpar
 obtain rfl := ia.val
 clear ia hB hme h1 hv1
 go_enter Tryz.func117, Tryz.ntmps117
 go_wp2_with fail
 refine (RIs_any false A _ c l _ rfl (by omega) (hl.below (ba (ba (b0 _) _) _))).mono ?_
 rintro e w1 ⟨rfl, hb⟩
 rw [HB.out]
 have hbx := (Box2.new (w.alloc (.cells #[.bool false, .slice A l.length c] 24)) (.bool false) (.slice none 0 0)).below hb
 rw [World.size_alloc] at hbx
 have hby := ((Box2.new w (.bool false) (.slice A l.length c)).alloc (.cells #[.bool false, .slice none 0 0] 24)).below hb
 have hK := bt (ba (ba (b0 w) _) _) hb
 clear hb
 obtain ⟨y0, y1⟩ := hby.cs
 go_wp2_with fail
 refine (HBI.out w1 hK).mono ?_
 rintro e w2 ⟨rfl, hb2⟩
 replace hbx := hbx.below hb2
 replace hby := hby.below hb2
 replace hK := bt hK hb2
 clear y0 y1 hb2
 obtain ⟨w1, hw1⟩ : ∃ v, v = w2 := ⟨_, rfl⟩
 rw [← hw1] at hbx hby hK ⊢
 clear hw1 w2
 obtain ⟨y0, y1⟩ := hby.cs
 go_wp2_with fail
 refine (HBI.out w1 hK).mono ?_
 rintro e w2 ⟨rfl, hb2⟩
 replace hbx := hbx.below hb2
 replace hby := hby.below hb2
 replace hK := bt hK hb2
 clear y0 y1 hb2
 obtain ⟨w1, hw1⟩ : ∃ v, v = w2 := ⟨_, rfl⟩
 rw [← hw1] at hbx hby hK ⊢
 clear hw1 w2
 obtain ⟨y0, y1⟩ := hby.cs
 go_wp2_with fail
 refine (Rmade_any w1 w1 false A l.length c l rfl (by omega) hca (hl.below hK) (b0 _)).mono ?_
 rintro e w3 ⟨n3, A3, c3, l3, rfl, hc3, hs3, hB3, hz3, hb3⟩
 have i3 : IV w3 n3 A3 c3 l3 (zI false l ^ n) := ⟨hc3, hs3, hB3, hz3.trans HZ.out, top_len (isB_top hB3) (by
  have h := val_abs hz3
  rw [h, HVV.out]
  have := BB_mono (show 1 ≤ 300 by omega)
  have e : BB 1 = 4294967296 := by decide
  have := HV1.out
  omega)⟩
 clear hc3 hs3 hB3 hz3
 exact mde904) : P := h
theorem RPow_s_false_0 (n : Nat) (hn0 : 0 < n) (hpar : n % 2 = 0) (ia : IV w false A c l z) (h1 : bl l < 2) (hv1 : val l ≤ 1) :
  Calls Tryz.prog 117 #[.agg #[.bool false, .slice A l.length c], .int .i64 (n : Int)] w (RIE w (z ^ n)) := by
 have ea := ia.len
 have hB := ia.can
 have hl := ia.ws
 have hca := ia.cap
 obtain ⟨m, hme⟩ : ∃ m, m = bl l := ⟨_, rfl⟩
 have HB := Hi hB
 have HBI : Hid (∀ W, Below w.heap.size w W → Calls Tryz.prog 113 #[.agg #[.bool false, .slice A l.length c]] W fun e w' => e = .returned (.int .i64 (m : Int)) ∧ Below W.heap.size W w') := Hi (fun W hW => by
  have r := RBits_any false A l.length c l true W rfl (by omega) (hl.below hW) hB
  rw [if_pos rfl, ← hme] at r
  exact r)
 rw [← hme] at h1
 have hbi : ¬ (1 : Int) < (m : Int) := by omega
 have hm2 : (m : Int) < 2 := by omega
 have HV1 := Hi hv1
 have HVV : Hid ((zI false l).natAbs = val l) := Hi (by unfold zI; simp)
 have hnn : ¬ (n : Int) < 0 := by omega
 have hnz : ((n : Int) == 0) = false := beq_eq_false_iff_ne.2 (by omega)
 have hmod : (n : Int).tmod 2 = 0 := by rw [Int.tmod_eq_emod_of_nonneg (by omega)]; omega
 have hmod2 : (n : Int) % 2 = 0 := by omega
 exact m8b219
theorem RPow_s_false_1 (n : Nat) (hn0 : 0 < n) (hpar : n % 2 = 1) (ia : IV w false A c l z) (h1 : bl l < 2) (hv1 : val l ≤ 1) :
  Calls Tryz.prog 117 #[.agg #[.bool false, .slice A l.length c], .int .i64 (n : Int)] w (RIE w (z ^ n)) := by
 have ea := ia.len
 have hB := ia.can
 have hl := ia.ws
 have hca := ia.cap
 obtain ⟨m, hme⟩ : ∃ m, m = bl l := ⟨_, rfl⟩
 have HB := Hi hB
 have HBI : Hid (∀ W, Below w.heap.size w W → Calls Tryz.prog 113 #[.agg #[.bool false, .slice A l.length c]] W fun e w' => e = .returned (.int .i64 (m : Int)) ∧ Below W.heap.size W w') := Hi (fun W hW => by
  have r := RBits_any false A l.length c l true W rfl (by omega) (hl.below hW) hB
  rw [if_pos rfl, ← hme] at r
  exact r)
 rw [← hme] at h1
 have hbi : ¬ (1 : Int) < (m : Int) := by omega
 have hm2 : (m : Int) < 2 := by omega
 have HV1 := Hi hv1
 have HVV : Hid ((zI false l).natAbs = val l) := Hi (by unfold zI; simp)
 have hnn : ¬ (n : Int) < 0 := by omega
 have hnz : ((n : Int) == 0) = false := beq_eq_false_iff_ne.2 (by omega)
 have hmod : (n : Int).tmod 2 = 1 := by rw [Int.tmod_eq_emod_of_nonneg (by omega)]; omega
 have hmod2 : (n : Int) % 2 = 1 := by omega
 exact m8b219
theorem RPow_z_false (ia : IV w false A c l z) (h1 : bl l < 2) (hv1 : val l ≤ 1) :
  Calls Tryz.prog 117 #[.agg #[.bool false, .slice A l.length c], .int .i64 0] w (RIE w (1)) := by
 have ea := ia.len
 have hB := ia.can
 have hl := ia.ws
 have hca := ia.cap
 obtain ⟨m, hme⟩ : ∃ m, m = bl l := ⟨_, rfl⟩
 have HB := Hi hB
 have HBI : Hid (∀ W, Below w.heap.size w W → Calls Tryz.prog 113 #[.agg #[.bool false, .slice A l.length c]] W fun e w' => e = .returned (.int .i64 (m : Int)) ∧ Below W.heap.size W w') := Hi (fun W hW => by
  have r := RBits_any false A l.length c l true W rfl (by omega) (hl.below hW) hB
  rw [if_pos rfl, ← hme] at r
  exact r)
 rw [← hme] at h1
 have hbi : ¬ (1 : Int) < (m : Int) := by omega
 have hm2 : (m : Int) < 2 := by omega
 have HV1 := Hi hv1
 have HVV : Hid ((zI false l).natAbs = val l) := Hi (by unfold zI; simp)
 obtain rfl := ia.val
 clear ia hB hme h1 hv1
 go_enter Tryz.func117, Tryz.ntmps117
 go_wp2_with fail
 refine (RIs_any false A _ c l _ rfl (by omega) (hl.below (ba (ba (b0 _) _) _))).mono ?_
 rintro e w1 ⟨rfl, hb⟩
 rw [HB.out]
 have hbx := (Box2.new (w.alloc (.cells #[.bool false, .slice A l.length c] 24)) (.bool false) (.slice none 0 0)).below hb
 rw [World.size_alloc] at hbx
 have hby := ((Box2.new w (.bool false) (.slice A l.length c)).alloc (.cells #[.bool false, .slice none 0 0] 24)).below hb
 exact mae28b
theorem bl_small (hw : ∀ x ∈ l, x < 4294967296) (ht : Top l) (h : bl l < 2) : val l ≤ 1 := by
 have h1 := bl_lt hw ht
 have h2 : 2 ^ bl l ≤ 2 ^ 1 := Nat.pow_le_pow_right (by decide) (by omega)
 omega
theorem RPow_small {neg : Bool} (n : Nat) (ia : IV w neg A c l z) (h1 : bl l < 2) :
  Calls Tryz.prog 117 #[.agg #[.bool neg, .slice A l.length c], .int .i64 (n : Int)] w (RIE w (z ^ n)) := by
 have hv := bl_small ia.ws.1 (isB_top ia.can) h1
 rcases Nat.eq_zero_or_pos n with rfl | h0
 ·rw [Int.pow_zero]
  cases neg
  ·exact RPow_z_false ia h1 hv
  ·exact RPow_z_true ia h1 hv
 ·rcases Nat.mod_two_eq_zero_or_one n with hp | hp
  ·cases neg
   ·exact RPow_s_false_0 n h0 hp ia h1 hv
   ·exact RPow_s_true_0 n h0 hp ia h1 hv
  ·cases neg
   ·exact RPow_s_false_1 n h0 hp ia h1 hv
   ·exact RPow_s_true_1 n h0 hp ia h1 hv
end Go.Proofs.YtgljdfblgpdaaaaGreatDoor
