/- The specification's Pow: powers that are computed. -/
import Derived.Test.YtlloilbinobljaaGreatDoorNumSpP
import Derived.Deep.DeepCutAuto
import Derived.Outline
set_option linter.unusedSimpArgs false
set_option linter.unusedVariables false
namespace Go.Proofs.YtlloilbinobljaaGreatDoor
open Go.RowKit Go.Shelf

theorem Box2.stored {W : World} {p : Nat} {u v : Value} (h : Box2 W p u v) (x y : Value) : Box2 ((W.setCell ⟨p, 0, none⟩ x).setCell ⟨p, 1, none⟩ y) p x y := (h.set0 _).set1 _
theorem Box2.stored' {W : World} {p : Nat} (h : Box2 W p (.bool false) (.slice none 0 0)) (x y : Value) : Box2 ((W.setCell ⟨p, 0, none⟩ x).setCell ⟨p, 1, none⟩ y) p x y := (h.set0 _).set1 _
/-- Two boxes of integers, that were not there in the world w. -/
def PwB (w : World) (p q : Nat) (x y : Int) (W : World) : Prop :=
  ∃ n A c l n' A' c' l', Box2 W p (.bool n) (.slice A l.length c) ∧ Box2 W q (.bool n') (.slice A' l'.length c') ∧ IV W n A c l x ∧ IV W n' A' c' l' y ∧ p ≠ q ∧ w.heap.size ≤ p ∧ w.heap.size ≤ q ∧ Below w.heap.size w W
def PwAt (w : World) (x y : Int) (s t : Value) (W : World) : Prop := ∃ p q, s = .pointer (some ⟨p, 0, none⟩) ∧ t = .pointer (some ⟨q, 0, none⟩) ∧ PwB w p q x y W
theorem IV.two {W : World} {n : Bool} {A : Option Addr} {c : Nat} {l : List Nat} {z : Int} (h : IV W n A c l z) {p : Nat} {u : Bool} {B : Option Addr} {k d : Nat} (hb : Box2 W p (.bool u) (.slice B k d)) (x y : Value) :
    IV ((W.setCell ⟨p, 0, none⟩ x).setCell ⟨p, 1, none⟩ y) n A c l z := ⟨h.cap, h.ws.two (ws_off_box hb (by simp) h.ws) _ _, h.can, h.val, h.len⟩
theorem PwB.set_p {w W w2 : World} {p q : Nat} {x y v : Int} {n : Bool} {A : Option Addr} {c : Nat} {l : List Nat} (h : PwB w p q x y W) (hb : Below W.heap.size W w2) (i : IV w2 n A c l v) :
    PwB w p q v y ((w2.setCell ⟨p, 0, none⟩ (.bool n)).setCell ⟨p, 1, none⟩ (.slice A l.length c)) := by
  obtain ⟨n1, A1, c1, l1, n2, A2, c2, l2, bp, bq, i1, i2, hne, hp, hq, hbl⟩ := h
  exact ⟨n, A, c, l, n2, A2, c2, l2, (bp.below hb).stored _ _, (bq.below hb).far (fun e => hne e.symm) _ _, i.two (bp.below hb) _ _, (i2.below hb).two (bp.below hb) _ _, hne, hp, hq, b2 (bt hbl hb) hp _ _⟩
theorem PwB.set_q {w W w2 : World} {p q : Nat} {x y v : Int} {n : Bool} {A : Option Addr} {c : Nat} {l : List Nat} (h : PwB w p q x y W) (hb : Below W.heap.size W w2) (i : IV w2 n A c l v) :
    PwB w p q x v ((w2.setCell ⟨q, 0, none⟩ (.bool n)).setCell ⟨q, 1, none⟩ (.slice A l.length c)) := by
  obtain ⟨n1, A1, c1, l1, n2, A2, c2, l2, bp, bq, i1, i2, hne, hp, hq, hbl⟩ := h
  exact ⟨n1, A1, c1, l1, n, A, c, l, (bp.below hb).far hne _ _, (bq.below hb).stored _ _, (i1.below hb).two (bq.below hb) _ _, i.two (bq.below hb) _ _, hne, hp, hq, b2 (bt hbl hb) hq _ _⟩
theorem sq_pow (y : Int) (q : Nat) : (y * y) ^ q = y ^ (2 * q) := by
  induction q with
  | zero => simp
  | succ q ih =>
    rw [Int.pow_succ, ih, show 2 * (q + 1) = 2 * q + 1 + 1 from by omega, Int.pow_succ, Int.pow_succ, Int.mul_assoc]
theorem natAbs_pow' (y : Int) (q : Nat) : (y ^ q).natAbs = y.natAbs ^ q := by
  induction q with
  | zero => simp
  | succ q ih => rw [Int.pow_succ, Int.natAbs_mul, ih, Nat.pow_succ]
/-- What is still to be multiplied. -/
structure PwI (V N m : Nat) (x y : Int) (T : Int) : Prop where
  eq : x * y ^ m = T
  pos : 0 < T.natAbs
  fit : T.natAbs < BB 200
theorem PwI.x_pos {V N m : Nat} {x y T : Int} (h : PwI V N m x y T) : 0 < x.natAbs ∧ 0 < y.natAbs ^ m := by
  have e := congrArg Int.natAbs h.eq
  rw [Int.natAbs_mul, natAbs_pow'] at e
  have h1 := h.pos
  constructor
  · rcases Nat.eq_zero_or_pos x.natAbs with h0 | h0
    · rw [h0, Nat.zero_mul] at e; omega
    · exact h0
  · rcases Nat.eq_zero_or_pos (y.natAbs ^ m) with h0 | h0
    · rw [h0, Nat.mul_zero] at e; omega
    · exact h0
theorem PwI.le {V N m : Nat} {x y T : Int} (h : PwI V N m x y T) {j : Nat} (hj : j ≤ m) (hm : 0 < m) : x.natAbs * y.natAbs ^ j < BB 200 ∧ y.natAbs ^ j < BB 200 := by
  have e := congrArg Int.natAbs h.eq
  rw [Int.natAbs_mul, natAbs_pow'] at e
  obtain ⟨h1, h2⟩ := h.x_pos
  have hy : 0 < y.natAbs := by
    rcases Nat.eq_zero_or_pos y.natAbs with h0 | h0
    · rw [h0, Nat.zero_pow hm] at h2; omega
    · exact h0
  have h3 : y.natAbs ^ j ≤ y.natAbs ^ m := Nat.pow_le_pow_right hy hj
  have h4 := Nat.mul_le_mul_left x.natAbs h3
  have h5 := Nat.le_mul_of_pos_left (y.natAbs ^ j) h1
  have h6 := h.fit
  omega
theorem PwI.odd {V N q : Nat} {x y T : Int} (h : PwI V N (2 * q + 1) x y T) : PwI V N q (x * y) (y * y) T := by
  refine ⟨?_, h.pos, h.fit⟩
  rw [sq_pow, ← h.eq, Int.pow_succ, Int.mul_assoc, Int.mul_comm y]
theorem PwI.even {V N q : Nat} {x y T : Int} (h : PwI V N (2 * q) x y T) : PwI V N q x (y * y) T := by
  refine ⟨?_, h.pos, h.fit⟩
  rw [sq_pow, ← h.eq]
theorem PwI.last {V N : Nat} {x y T : Int} (h : PwI V N (2 * 0 + 1) x y T) : PwI V N 0 (x * y) y T := by
  refine ⟨?_, h.pos, h.fit⟩
  have := h.eq
  rw [show 2 * 0 + 1 = 0 + 1 from rfl, Int.pow_succ] at this
  rw [← this, Int.pow_zero, Int.one_mul, Int.mul_one]

set_option maxRecDepth 100000 in
set_option maxHeartbeats 4000000 in
theorem RPow_main {w : World} {neg : Bool} {A : Option Addr} {c : Nat} {l : List Nat} {z : Int} {n : Nat} (ia : IV w neg A c l z) (h1 : 1 < bl l) (h2 : n ≤ 1048576 / bl l) (hfit : ∀ m, m ≤ n → val l ^ m < BB 200) :
    Calls Tryz.prog 31 #[.agg #[.bool neg, .slice A l.length c], .int .i64 (n : Int)] w (RIE w (z ^ n)) := by
  have ea := ia.len
  have hB := ia.can
  have hl := ia.ws
  obtain ⟨m, hme⟩ : ∃ m, m = bl l := ⟨_, rfl⟩
  have HFIT := Lib.hid hfit
  have HB := Lib.hid hB
  have HBI : Hid (∀ W, Below w.heap.size w W → Calls Tryz.prog 29 #[.agg #[.bool neg, .slice A l.length c]] W fun e w' => e = .returned (.int .i64 (m : Int)) ∧ Below W.heap.size W w') := Lib.hid (fun W hW => by
    have r := RBits_any neg A l.length c l true W rfl (by omega) (hl.below hW) hB
    rw [if_pos rfl, ← hme] at r
    exact r)
  have HBLP := Lib.hid h1
  rw [← hme] at h1 h2
  have hbi : (1 : Int) < (m : Int) := by omega
  have hm0 : ((m : Int) == 0) = false := beq_eq_false_iff_ne.2 (by omega)
  have hm2 : ¬ (m : Int) < 2 := by omega
  have hnn : ¬ (n : Int) < 0 := by omega
  obtain ⟨d, hd⟩ : ∃ d, d = 1048576 / m := ⟨_, rfl⟩
  have hdl : d ≤ 1048576 := by rw [hd]; exact Nat.div_le_self _ _
  have hdiv : (1048576 : Int).tdiv (m : Int) = (d : Int) := by rw [Int.tdiv_eq_ediv_of_nonneg (by omega), hd]; simp
  rw [← hd] at h2
  have hng : ¬ (d : Int) < (n : Int) := by omega
  have hn20 : n ≤ 1048576 := by omega
  have HIA := Lib.hid ia
  clear ia hfit hB hme hd h1 h2
  go_enter Tryz.func31, Tryz.ntmps31
  go_wp2_with fail
  refine (RIs_any neg A _ c l _ rfl (by omega) (hl.below (ba (ba (b0 _) _) _))).mono ?_
  rintro e w1 ⟨rfl, hb⟩
  rw [HB.out]
  have hbx := (Box2.new (w.alloc (.cells #[.bool neg, .slice A l.length c] 24)) (.bool false) (.slice none 0 0)).below hb
  rw [World.size_alloc] at hbx
  have hby := ((Box2.new w (.bool neg) (.slice A l.length c)).alloc (.cells #[.bool false, .slice none 0 0] 24)).below hb
  have hK := bt (ba (ba (b0 w) _) _) hb
  clear hb
  have y0 := hby.cell0
  have y1 := hby.cell1
  go_wp2_with fail
  refine (HBI.out w1 hK).mono ?_
  rintro e w2 ⟨rfl, hb2⟩
  replace hbx := hbx.below hb2
  replace hby := hby.below hb2
  replace hK := bt hK hb2
  clear y0 y1 hb2
  obtain ⟨w1, hw1⟩ : ∃ v, v = w2 := ⟨_, rfl⟩
  rw [← hw1] at hbx hby hK ⊢
  clear hw1 w2
  have y0 := hby.cell0
  have y1 := hby.cell1
  go_wp2_with fail
  refine (HBI.out w1 hK).mono ?_
  rintro e w2 ⟨rfl, hb2⟩
  replace hbx := hbx.below hb2
  replace hby := hby.below hb2
  replace hK := bt hK hb2
  clear y0 y1 hb2
  obtain ⟨w1, hw1⟩ : ∃ v, v = w2 := ⟨_, rfl⟩
  rw [← hw1] at hbx hby hK ⊢
  clear hw1 w2
  have y0 := hby.cell0
  have y1 := hby.cell1
  go_wp2_with fail
  refine (HBI.out w1 hK).mono ?_
  rintro e w2 ⟨rfl, hb2⟩
  replace hbx := hbx.below hb2
  replace hby := hby.below hb2
  replace hK := bt hK hb2
  clear y0 y1 hb2
  obtain ⟨w1, hw1⟩ : ∃ v, v = w2 := ⟨_, rfl⟩
  rw [← hw1] at hbx hby hK ⊢
  clear hw1 w2
  have y0 := hby.cell0
  have y1 := hby.cell1
  go_upto_region 11 with fail
  have HBX := Lib.hid hbx
  have HBY := Lib.hid hby
  have HK := Lib.hid hK
  have hws := hl.below hK
  have HWS := Lib.hid hws
  have hxs := hbx.lt
  clear hbx hby hK hws
  go_cut [6, 7] (fun s t wx => PwAt w1 1 z s t wx)
  case first =>
    as_aux_lemma =>
    have S5 : ∀ W, Below w1.heap.size w1 W → W.cell? ⟨w.heap.size, 0, none⟩ = some (.bool neg) ∧ W.cell? ⟨w.heap.size, 1, none⟩ = some (.slice A l.length c) := fun W hb => ⟨cell_below (HBY.out.cell0) hb, cell_below (HBY.out.cell1) hb⟩
    have HS5 := Lib.hid S5
    clear S5
    go_region_held3 (fun W => W.cell? ⟨w.heap.size, 0, none⟩ = some (.bool neg) ∧ W.cell? ⟨w.heap.size, 1, none⟩ = some (.slice A l.length c))
      ((refine HS5.out _ ?_; (repeat (first | assumption | exact b0 _ | apply ba | apply bd | apply bw | (refine bs ?_ (by first | exact Nat.le_refl _ | (dsimp only; omega) | omega) _)))))
      (first
      | (go_at_call 65; refine (ROf_iv _ 1 (by omega) (by omega)).mono ?_; rintro e w6 ⟨n6, A6, c6, l6, rfl, i6, hb6⟩; have hc6 := i6.cap; have hB6 := i6.can; have hz6 := i6.val; have hw6 := i6.ws; obtain ⟨hcc6, hff6⟩ := bcell hb6; have hb56 : Below w1.heap.size w1 w6 := bt (by repeat (first | assumption | exact b0 _ | apply ba | apply bd | apply bw)) hb6; have sz6 := hb56.size; have sy6 := hb6.size; (try simp at sy6); (try have sw6 : w1.heap.size < w6.heap.size := by omega); (try have sv6 : w1.heap.size + 1 < w6.heap.size := by omega)))
    all_goals (go_wp2_with fail; go_meet)
    all_goals
      have hwa6 : WS w6 A l := HWS.out.below hb56
      have hcA := HIA.out.cap
      have hBA := HIA.out.can
      have hzA := HIA.out.val
      have g6 := fun (p : Nat) (h : Box2 w6 p (.bool false) (.slice none 0 0)) => ws_off_box h (by simp) hw6
      have G6 := fun (p : Nat) (h : w6.heap.size ≤ p) => hw6.off h
      have GA := fun (p : Nat) (h : w1.heap.size ≤ p) => HWS.out.off h
      refine ⟨_, _, rfl, rfl, n6, A6, c6, l6, neg, A, c, l, ?_, ?_, ⟨hc6, ?_, hB6, hz6, i6.len⟩, ⟨hcA, ?_, hBA, hzA, ea⟩, ?_, ?_, ?_, ?_⟩
      · (repeat (first
          | with_reducible exact hw6
          | with_reducible exact hwa6
          | (with_reducible refine WS.below ?_ (ba (b0 _) _))
          | (with_reducible refine WS.two ?_ ?_ _ _)
          | (focus ((with_reducible refine Box2.new' ?_); (simp; done)))
          | (with_reducible refine Box2.alloc ?_ _)
          | (with_reducible refine Box2.stored' ?_ _ _)
          | (with_reducible refine Box2.far ?_ ?_ _ _)
          | (with_reducible refine Box2.below ?_ hb6)
          | exact G6 _ (by omega)
          | exact GA _ (by first | exact Nat.le_refl _ | omega)
          | (with_reducible refine g6 _ ?_)
          | omega
          | (focus (simp; done))
          | (with_reducible refine Box2.drew' ?_)))
      · (repeat (first
          | with_reducible exact hw6
          | with_reducible exact hwa6
          | (with_reducible refine WS.below ?_ (ba (b0 _) _))
          | (with_reducible refine WS.two ?_ ?_ _ _)
          | (focus ((with_reducible refine Box2.new' ?_); (simp; done)))
          | (with_reducible refine Box2.alloc ?_ _)
          | (with_reducible refine Box2.stored' ?_ _ _)
          | (with_reducible refine Box2.far ?_ ?_ _ _)
          | (with_reducible refine Box2.below ?_ hb6)
          | exact G6 _ (by omega)
          | exact GA _ (by first | exact Nat.le_refl _ | omega)
          | (with_reducible refine g6 _ ?_)
          | omega
          | (focus (simp; done))
          | (with_reducible refine Box2.drew' ?_)))
      · (repeat (first
          | with_reducible exact hw6
          | with_reducible exact hwa6
          | (with_reducible refine WS.below ?_ (ba (b0 _) _))
          | (with_reducible refine WS.two ?_ ?_ _ _)
          | (focus ((with_reducible refine Box2.new' ?_); (simp; done)))
          | (with_reducible refine Box2.alloc ?_ _)
          | (with_reducible refine Box2.stored' ?_ _ _)
          | (with_reducible refine Box2.far ?_ ?_ _ _)
          | (with_reducible refine Box2.below ?_ hb6)
          | exact G6 _ (by omega)
          | exact GA _ (by first | exact Nat.le_refl _ | omega)
          | (with_reducible refine g6 _ ?_)
          | omega
          | (focus (simp; done))
          | (with_reducible refine Box2.drew' ?_)))
      · (repeat (first
          | with_reducible exact hw6
          | with_reducible exact hwa6
          | (with_reducible refine WS.below ?_ (ba (b0 _) _))
          | (with_reducible refine WS.two ?_ ?_ _ _)
          | (focus ((with_reducible refine Box2.new' ?_); (simp; done)))
          | (with_reducible refine Box2.alloc ?_ _)
          | (with_reducible refine Box2.stored' ?_ _ _)
          | (with_reducible refine Box2.far ?_ ?_ _ _)
          | (with_reducible refine Box2.below ?_ hb6)
          | exact G6 _ (by omega)
          | exact GA _ (by first | exact Nat.le_refl _ | omega)
          | (with_reducible refine g6 _ ?_)
          | omega
          | (focus (simp; done))
          | (with_reducible refine Box2.drew' ?_)))
      · omega
      · omega
      · omega
      · repeat (first | exact hb56 | (with_reducible refine ba ?_ _) | (with_reducible refine bs ?_ ?_ _))
        all_goals (first | exact Nat.le_refl _ | (dsimp only; omega) | omega)
  case rest =>
  obtain ⟨p, q, rfl, rfl, hpw⟩ := hcut
  obtain ⟨w8, hw8⟩ : ∃ v, v = wc := ⟨_, rfl⟩
  rw [← hw8] at hpw ⊢
  clear hw8 wc
  have HPW8 := Lib.hid hpw
  have HPI : Hid (PwI 0 0 n 1 z (z ^ n)) := Lib.hid (by
    have hv : val l = z.natAbs := by rw [← HIA.out.val]; unfold zI; split <;> simp
    have hzp : 0 < z.natAbs := by
      rw [← hv]
      rcases Nat.eq_zero_or_pos (val l) with h | h
      · have h0 := (val_eq_zero (isB_top HIA.out.can)).1 h
        have := HBLP.out
        unfold bl at this
        rw [if_pos h0] at this
        omega
      · exact h
    refine ⟨Int.one_mul _, ?_, ?_⟩
    · rw [natAbs_pow']; exact Nat.pow_pos hzp
    · rw [natAbs_pow', ← hv]; exact HFIT.out n (Nat.le_refl _))
  have hxs1 := HBX.out.lt
  have HBX8 := Lib.hid (fun W (h : Below w1.heap.size w1 W) => HBX.out.below h)
  clear hpw y0 y1
  go_wp2_with fail
  go_loopw [1] (fun nv wr => ∃ (m : Nat) (x y : Int), nv = .int .i64 (m : Int) ∧ m ≤ n ∧ Hid (PwI 0 0 m x y (z ^ n)) ∧ Hid (PwB w1 p q x y wr)) (fun nv _ => (intOf nv).toNat)
  case atStart => exact ⟨n, 1, z, rfl, Nat.le_refl _, HPI, HPW8⟩
  case round =>
    clear HPI HPW8
    obtain ⟨m', x, y, rfl, hmn, hI, hP⟩ := hrel
    obtain ⟨n1, A1, c1, l1, n2, A2, c2, l2, bp, bq, i1, i2, hne, hp, hq, hbl⟩ := hP.out
    have p0 := bp.cell0
    have p1 := bp.cell1
    have q0 := bq.cell0
    have q1 := bq.cell1
    rcases Nat.eq_zero_or_pos m' with rfl | hm0
    · have bx := HBX8.out _ hbl
      have x0 := bx.cell0
      have x1 := bx.cell1
      have f0 := bx.free 0
      have f1 := bx.free 1
      obtain ⟨k0, k1, k2⟩ := bx.back (.bool n1) (.slice A1 l1.length c1)
      have hx : x = z ^ n := by
        have := hI.out.eq
        rwa [Int.pow_zero, Int.mul_one] at this
      have i1' := i1.two bx (.bool n1) (.slice A1 l1.length c1)
      rw [hx] at i1'
      have HI1 := Lib.hid i1'
      have HBL := Lib.hid (bt HK.out hbl)
      clear hx i1 i2 i1' bp bq hbl
      go_wp2_with fail
      refine bodyPost_ret (v := .tuple #[.agg #[.bool n1, .slice A1 l1.length c1], .int .i64 0]) (by simp [results, Tryz.results31, go_sem, k0, k2]) rfl ?_
      exact ⟨n1, A1, c1, l1, rfl, HI1.out, b2 HBL.out (by omega) _ _⟩
    · have hmi : (0 : Int) < (m' : Int) := by omega
      obtain ⟨q', hq'⟩ : ∃ q', q' = m' / 2 := ⟨_, rfl⟩
      have hdv : (m' : Int).tdiv 2 = (q' : Int) := by rw [Int.tdiv_eq_ediv_of_nonneg (by omega), hq']; simp
      have hdv2 : (m' : Int) / 2 = (q' : Int) := by rw [hq']; simp
      rcases Nat.mod_two_eq_zero_or_one m' with hpar | hpar
      · obtain rfl : m' = 2 * q' := by omega
        have hmod : ((2 * q' : Nat) : Int).tmod 2 = 0 := by rw [Int.tmod_eq_emod_of_nonneg (by omega)]; omega
        have hmod2 : ((2 * q' : Nat) : Int) % 2 = 0 := by omega
        have hlt2 : Lt 300 (y * y) := by
          have h := (hI.out.le (j := 2) (by omega) (by omega)).2
          unfold Lt
          rw [Int.natAbs_mul, ← Nat.pow_two]
          exact Nat.lt_of_lt_of_le h (BB_mono (by omega))
        obtain ⟨mm, hmm⟩ : ∃ mm, mm = 2 * q' := ⟨_, rfl⟩
        have hqi : (0 : Int) < (q' : Int) := by omega
        rw [← hmm] at hmi hdv hdv2 hmod hmod2 hmn ⊢
        have HMM := Lib.hid hmm
        have HLT2 := Lib.hid hlt2
        have HBQ := Lib.hid bq
        have i5 := i2
        rw [← hmm] at hI
        clear hmm hq' hlt2 bp bq i1 i2 hpar
        go_wp2_with fail
        refine (RMul_iv i5 i5 rfl HLT2.out).mono ?_
        rintro e w4 ⟨n4, A4, c4, l4, rfl, i4, hb4⟩
        have bq4 := HBQ.out.below hb4
        have r0 := bq4.cell0
        have r1 := bq4.cell1
        have g0 := bq4.free 0
        have g1 := bq4.free 1
        have HP4 := Lib.hid (hP.out.set_q hb4 i4)
        clear i4 i5 bq4 hb4
        go_wp2_with fail
        go_roundw
        case rel =>
          refine ⟨q', x, y * y, rfl, by omega, ?_, HP4⟩
          have h := hI.out
          rw [HMM.out] at h
          exact Lib.hid h.even
        case measure => have := HMM.out; simp [intOf]; omega
      · obtain rfl : m' = 2 * q' + 1 := by omega
        have hmod : ((2 * q' + 1 : Nat) : Int).tmod 2 = 1 := by rw [Int.tmod_eq_emod_of_nonneg (by omega)]; omega
        have hmod2 : ((2 * q' + 1 : Nat) : Int) % 2 = 1 := by omega
        have hlt1 : Lt 300 (x * y) := by
          have h := (hI.out.le (j := 1) (by omega) (by omega)).1
          unfold Lt
          rw [Int.natAbs_mul, ← Nat.pow_one y.natAbs]
          exact Nat.lt_of_lt_of_le h (BB_mono (by omega))
        obtain ⟨mm, hmm⟩ : ∃ mm, mm = 2 * q' + 1 := ⟨_, rfl⟩
        rw [← hmm] at hmi hdv hdv2 hmod hmod2 hmn ⊢
        have HMM := Lib.hid hmm
        have HI1 := Lib.hid i1
        have HI2 := Lib.hid i2
        have HLT1 := Lib.hid hlt1
        have HBP := Lib.hid bp
        have HBQ := Lib.hid bq
        rw [← hmm] at hI
        clear hmm hq' hlt1 bp bq i1 i2 hpar
        go_wp2_with fail
        refine (RMul_iv HI1.out HI2.out rfl HLT1.out).mono ?_
        rintro e w2 ⟨n3, A3, c3, l3, rfl, i3, hb2⟩
        have HP3 := Lib.hid (hP.out.set_p hb2 i3)
        have bp2 := HBP.out.below hb2
        have s0 := bp2.cell0
        have s1 := bp2.cell1
        have f0 := bp2.free 0
        have f1 := bp2.free 1
        have bq2 := HBQ.out.below hb2
        have t0 := bq2.cell0
        have t1 := bq2.cell1
        have bq3 := bq2.far (fun e => hne e.symm) (.bool n3) (.slice A3 l3.length c3)
        have v0 := bq3.cell0
        have v1 := bq3.cell1
        clear i3 p0 p1 q0 q1
        rcases Nat.eq_zero_or_pos q' with rfl | hq0
        · go_wp2_with fail
          go_roundw
          case rel =>
            refine ⟨0, x * y, y, rfl, by omega, ?_, HP3⟩
            have h := hI.out
            rw [HMM.out] at h
            exact Lib.hid h.last
          case measure => simp [intOf]; omega
        · have hqi : (0 : Int) < (q' : Int) := by omega
          go_wp2_with fail
          have hlt2 : Lt 300 (y * y) := by
            have h := (hI.out.le (j := 2) (by have := HMM.out; omega) (by have := HMM.out; omega)).2
            unfold Lt
            rw [Int.natAbs_mul, ← Nat.pow_two]
            exact Nat.lt_of_lt_of_le h (BB_mono (by omega))
          have HLT2 := Lib.hid hlt2
          have i5 := (HI2.out.below hb2).two bp2 (.bool n3) (.slice A3 l3.length c3)
          clear hlt2 s0 s1 f0 f1 t0 t1 v0 v1
          refine (RMul_iv i5 i5 rfl HLT2.out).mono ?_
          rintro e w4 ⟨n4, A4, c4, l4, rfl, i4, hb4⟩
          have bq4 := bq3.below hb4
          have r0 := bq4.cell0
          have r1 := bq4.cell1
          have g0 := bq4.free 0
          have g1 := bq4.free 1
          have HP4 := Lib.hid (HP3.out.set_q hb4 i4)
          clear i4 i5 bq4 hb4
          go_wp2_with fail
          go_roundw
          case rel =>
            refine ⟨q', x * y, y * y, rfl, by omega, ?_, HP4⟩
            have h := hI.out
            rw [HMM.out] at h
            exact Lib.hid h.odd
          case measure => have := HMM.out; simp [intOf]; omega
end Go.Proofs.YtlloilbinobljaaGreatDoor
