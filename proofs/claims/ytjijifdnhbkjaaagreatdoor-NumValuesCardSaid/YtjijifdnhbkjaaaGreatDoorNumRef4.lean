/- The specification of num: Cmp, Small, Bits. -/
import Derived.Test.YtjijifdnhbkjaaaGreatDoorNumRef3
namespace Go.Proofs.YtjijifdnhbkjaaaGreatDoor
open Go.RowKit

theorem cmpN_swap (x y : Nat) : -(cmpN x y) = cmpN y x := by unfold cmpN; (repeat' split) <;> omega
theorem cmpN_lo (x y : Nat) : -1 ≤ cmpN x y ∧ cmpN x y ≤ 1 := by unfold cmpN; (repeat' split) <;> omega

set_option maxRecDepth 100000 in
set_option maxHeartbeats 1000000 in
theorem RCmp_any (na nb : Bool) (A B : Option Addr) (n c m d : Nat) (l k : List Nat) (p q : Bool) (w : World) (hn : l.length = n) (hm : k.length = m) (hnm : n ≤ 1000000) (hmm : m ≤ 1000000) (hl : WS w A l) (hk : WS w B k) (hp : isB na l = p) (hq : isB nb k = q) :
    Calls Tryz.prog 20 #[.agg #[.bool na, .slice A n c], .agg #[.bool nb, .slice B m d]] w fun e w' => e = .returned (.int .i64 (if p && q then cmpI (zI na l) (zI nb k) else 0)) ∧ Below w.heap.size w w' := by
  subst hn hm
  have HP := Lib.hid hp
  have HQ := Lib.hid hq
  clear hp hq
  cases p
  · rw [if_neg (by simp)]
    go_enter Tryz.func20, Tryz.ntmps20
    go_wp2_with fail
    refine (RIs_any na A _ c l _ rfl (by omega) (hl.below (ba (ba (b0 _) _) _))).mono ?_
    rintro e w1 ⟨rfl, hb⟩
    rw [HP.out]
    go_wp2_with fail
    go_ret
    exact ⟨rfl, bt (ba (ba (b0 _) _) _) hb⟩
  · cases q
    · rw [if_neg (by simp)]
      go_enter Tryz.func20, Tryz.ntmps20
      go_wp2_with fail
      obtain ⟨W1, hW1⟩ : ∃ W, W = (w.alloc (.cells #[.bool na, .slice A l.length c] 24)).alloc (.cells #[.bool nb, .slice B k.length d] 24) := ⟨_, rfl⟩
      have x0 : Box2 W1 w.heap.size (.bool na) (.slice A l.length c) := by rw [hW1]; exact (Box2.new w _ _).alloc _
      have x1 : Box2 W1 (w.heap.size + 1) (.bool nb) (.slice B k.length d) := by
        rw [hW1]
        have h := Box2.new (w.alloc (.cells #[.bool na, .slice A l.length c] 24)) (.bool nb) (.slice B k.length d)
        rwa [World.size_alloc] at h
      have hw1 : Below w.heap.size w W1 := by rw [hW1]; exact ba (ba (b0 _) _) _
      rw [← hW1]
      clear hW1
      refine (RIs_any na A _ c l _ rfl (by omega) (hl.below hw1)).mono ?_
      rintro e w1 ⟨rfl, hb⟩
      rw [HP.out]
      have y0 := x0.below hb
      have y1 := x1.below hb
      have c0 := y0.cell0
      have c1 := y0.cell1
      have c2 := y1.cell0
      have c3 := y1.cell1
      go_wp2_with fail
      refine (RIs_any nb B _ d k _ rfl (by omega) (hk.below (bt hw1 hb))).mono ?_
      rintro e w2 ⟨rfl, hb2⟩
      rw [HQ.out]
      go_wp2_with fail
      go_ret
      exact ⟨rfl, bt (bt hw1 hb) hb2⟩
    · rw [if_pos (by rfl), ← cmpS_eq HP.out HQ.out]
      have hcb := cmpN_lo (val l) (val k)
      have hsw := cmpN_swap (val l) (val k)
      have hww : IntKind.i64.wrap (cmpN (val k) (val l)) = cmpN (val k) (val l) := IntWalk.i64_in _ (by have := cmpN_lo (val k) (val l); omega)
      cases na <;> cases nb
      · show Calls _ _ _ _ fun e w' => e = .returned (.int .i64 (cmpN (val l) (val k))) ∧ _
        go_enter Tryz.func20, Tryz.ntmps20
        go_wp2_with fail
        obtain ⟨W1, hW1⟩ : ∃ W, W = (w.alloc (.cells #[.bool false, .slice A l.length c] 24)).alloc (.cells #[.bool false, .slice B k.length d] 24) := ⟨_, rfl⟩
        have x0 : Box2 W1 w.heap.size (.bool false) (.slice A l.length c) := by rw [hW1]; exact (Box2.new w _ _).alloc _
        have x1 : Box2 W1 (w.heap.size + 1) (.bool false) (.slice B k.length d) := by
          rw [hW1]
          have h := Box2.new (w.alloc (.cells #[.bool false, .slice A l.length c] 24)) (.bool false) (.slice B k.length d)
          rwa [World.size_alloc] at h
        have hw1 : Below w.heap.size w W1 := by rw [hW1]; exact ba (ba (b0 _) _) _
        rw [← hW1]
        clear hW1
        refine (RIs_any false A _ c l _ rfl (by omega) (hl.below hw1)).mono ?_
        rintro e w1 ⟨rfl, hb⟩
        rw [HP.out]
        have y0 := x0.below hb
        have y1 := x1.below hb
        have c0 := y0.cell0
        have c1 := y0.cell1
        have c2 := y1.cell0
        have c3 := y1.cell1
        go_wp2_with fail
        refine (RIs_any false B _ d k _ rfl (by omega) (hk.below (bt hw1 hb))).mono ?_
        rintro e w2 ⟨rfl, hb2⟩
        rw [HQ.out]
        have d0 := (y0.below hb2).cell0
        have d1 := (y0.below hb2).cell1
        have d2 := (y1.below hb2).cell0
        have d3 := (y1.below hb2).cell1
        have hw2 := bt (bt hw1 hb) hb2
        go_wp2_with fail
        refine (RcmpWords_any A B _ c _ d l k _ rfl rfl (by omega) (by omega) (isB_top HP.out) (isB_top HQ.out) (hl.below hw2) (hk.below hw2)).mono ?_
        rintro e w3 ⟨rfl, hb3⟩
        have g0 := ((y0.below hb2).below hb3).cell0
        go_wp2_with fail
        go_ret
        exact ⟨rfl, bt hw2 hb3⟩
      · show Calls _ _ _ _ fun e w' => e = .returned (.int .i64 (1)) ∧ _
        go_enter Tryz.func20, Tryz.ntmps20
        go_wp2_with fail
        obtain ⟨W1, hW1⟩ : ∃ W, W = (w.alloc (.cells #[.bool false, .slice A l.length c] 24)).alloc (.cells #[.bool true, .slice B k.length d] 24) := ⟨_, rfl⟩
        have x0 : Box2 W1 w.heap.size (.bool false) (.slice A l.length c) := by rw [hW1]; exact (Box2.new w _ _).alloc _
        have x1 : Box2 W1 (w.heap.size + 1) (.bool true) (.slice B k.length d) := by
          rw [hW1]
          have h := Box2.new (w.alloc (.cells #[.bool false, .slice A l.length c] 24)) (.bool true) (.slice B k.length d)
          rwa [World.size_alloc] at h
        have hw1 : Below w.heap.size w W1 := by rw [hW1]; exact ba (ba (b0 _) _) _
        rw [← hW1]
        clear hW1
        refine (RIs_any false A _ c l _ rfl (by omega) (hl.below hw1)).mono ?_
        rintro e w1 ⟨rfl, hb⟩
        rw [HP.out]
        have y0 := x0.below hb
        have y1 := x1.below hb
        have c0 := y0.cell0
        have c1 := y0.cell1
        have c2 := y1.cell0
        have c3 := y1.cell1
        go_wp2_with fail
        refine (RIs_any true B _ d k _ rfl (by omega) (hk.below (bt hw1 hb))).mono ?_
        rintro e w2 ⟨rfl, hb2⟩
        rw [HQ.out]
        have d0 := (y0.below hb2).cell0
        have d1 := (y0.below hb2).cell1
        have d2 := (y1.below hb2).cell0
        have d3 := (y1.below hb2).cell1
        have hw2 := bt (bt hw1 hb) hb2
        go_wp2_with fail
        go_ret
        exact ⟨rfl, hw2⟩
      · show Calls _ _ _ _ fun e w' => e = .returned (.int .i64 (-1)) ∧ _
        go_enter Tryz.func20, Tryz.ntmps20
        go_wp2_with fail
        obtain ⟨W1, hW1⟩ : ∃ W, W = (w.alloc (.cells #[.bool true, .slice A l.length c] 24)).alloc (.cells #[.bool false, .slice B k.length d] 24) := ⟨_, rfl⟩
        have x0 : Box2 W1 w.heap.size (.bool true) (.slice A l.length c) := by rw [hW1]; exact (Box2.new w _ _).alloc _
        have x1 : Box2 W1 (w.heap.size + 1) (.bool false) (.slice B k.length d) := by
          rw [hW1]
          have h := Box2.new (w.alloc (.cells #[.bool true, .slice A l.length c] 24)) (.bool false) (.slice B k.length d)
          rwa [World.size_alloc] at h
        have hw1 : Below w.heap.size w W1 := by rw [hW1]; exact ba (ba (b0 _) _) _
        rw [← hW1]
        clear hW1
        refine (RIs_any true A _ c l _ rfl (by omega) (hl.below hw1)).mono ?_
        rintro e w1 ⟨rfl, hb⟩
        rw [HP.out]
        have y0 := x0.below hb
        have y1 := x1.below hb
        have c0 := y0.cell0
        have c1 := y0.cell1
        have c2 := y1.cell0
        have c3 := y1.cell1
        go_wp2_with fail
        refine (RIs_any false B _ d k _ rfl (by omega) (hk.below (bt hw1 hb))).mono ?_
        rintro e w2 ⟨rfl, hb2⟩
        rw [HQ.out]
        have d0 := (y0.below hb2).cell0
        have d1 := (y0.below hb2).cell1
        have d2 := (y1.below hb2).cell0
        have d3 := (y1.below hb2).cell1
        have hw2 := bt (bt hw1 hb) hb2
        go_wp2_with fail
        go_ret
        exact ⟨rfl, hw2⟩
      · show Calls _ _ _ _ fun e w' => e = .returned (.int .i64 (cmpN (val k) (val l))) ∧ _
        go_enter Tryz.func20, Tryz.ntmps20
        go_wp2_with fail
        obtain ⟨W1, hW1⟩ : ∃ W, W = (w.alloc (.cells #[.bool true, .slice A l.length c] 24)).alloc (.cells #[.bool true, .slice B k.length d] 24) := ⟨_, rfl⟩
        have x0 : Box2 W1 w.heap.size (.bool true) (.slice A l.length c) := by rw [hW1]; exact (Box2.new w _ _).alloc _
        have x1 : Box2 W1 (w.heap.size + 1) (.bool true) (.slice B k.length d) := by
          rw [hW1]
          have h := Box2.new (w.alloc (.cells #[.bool true, .slice A l.length c] 24)) (.bool true) (.slice B k.length d)
          rwa [World.size_alloc] at h
        have hw1 : Below w.heap.size w W1 := by rw [hW1]; exact ba (ba (b0 _) _) _
        rw [← hW1]
        clear hW1
        refine (RIs_any true A _ c l _ rfl (by omega) (hl.below hw1)).mono ?_
        rintro e w1 ⟨rfl, hb⟩
        rw [HP.out]
        have y0 := x0.below hb
        have y1 := x1.below hb
        have c0 := y0.cell0
        have c1 := y0.cell1
        have c2 := y1.cell0
        have c3 := y1.cell1
        go_wp2_with fail
        refine (RIs_any true B _ d k _ rfl (by omega) (hk.below (bt hw1 hb))).mono ?_
        rintro e w2 ⟨rfl, hb2⟩
        rw [HQ.out]
        have d0 := (y0.below hb2).cell0
        have d1 := (y0.below hb2).cell1
        have d2 := (y1.below hb2).cell0
        have d3 := (y1.below hb2).cell1
        have hw2 := bt (bt hw1 hb) hb2
        go_wp2_with fail
        refine (RcmpWords_any A B _ c _ d l k _ rfl rfl (by omega) (by omega) (isB_top HP.out) (isB_top HQ.out) (hl.below hw2) (hk.below hw2)).mono ?_
        rintro e w3 ⟨rfl, hb3⟩
        have g0 := ((y0.below hb2).below hb3).cell0
        go_wp2_with fail
        go_ret
        exact ⟨rfl, bt hw2 hb3⟩

/-- The specification's test on the two lowest words. -/
theorem small_spec {p neg : Bool} {l : List Nat} (h2 : l.length ≤ 2) : smallV p neg l = if !p then (0, 3) else if (neg && decide (val l > 9223372036854775808)) || (!neg && decide (val l ≥ 9223372036854775808)) then (0, 2) else (zI neg l, 0) := by
  have hc : (decide (val l > 9223372036854775808) || (decide (val l = 9223372036854775808) && !neg)) = ((neg && decide (val l > 9223372036854775808)) || (!neg && decide (val l ≥ 9223372036854775808))) := by
    cases neg
    · simp only [Bool.not_false, Bool.and_true, Bool.false_and, Bool.false_or, Bool.true_and]
      rw [Bool.eq_iff_iff]; simp; omega
    · simp
  unfold smallV
  cases p
  · rfl
  · have h3 : ¬ l.length > 2 := by omega
    simp only [Bool.not_true, Bool.false_eq_true, if_false, h3, hc]
theorem quiet_w {P : Program} {f : FuncId} {args : Array Value} {w : World} {n : Nat} {v : Value} (h : Calls P f args (w.drewN n) fun e w' => e = .returned v ∧ w.drewN n = w') :
    Calls P f args (w.drewN n) fun e w'' => e = .returned v ∧ ∃ m, w'' = w.drewN m := h.mono fun _ _ h => ⟨h.1, n, h.2.symm⟩

set_option maxRecDepth 100000 in
set_option maxHeartbeats 1000000 in
theorem RSmall_any (neg : Bool) (A : Option Addr) (n c : Nat) (l : List Nat) (p : Bool) (w : World) (hn : l.length = n) (hm : n ≤ 4000000) (hl : WS w A l) (hp : isB neg l = p) :
    Calls Tryz.prog 9 #[.agg #[.bool neg, .slice A n c]] w fun e w' => e = .returned (.tuple #[.int .i64 (smallV p neg l).1, .int .i64 (smallV p neg l).2]) ∧ Below w.heap.size w w' := by
  subst hn
  have HP := Lib.hid hp
  clear hp
  cases p
  · rw [show smallV false neg l = (0, 3) from rfl]
    go_enter Tryz.func9, Tryz.ntmps9
    go_wp2_with fail
    refine (RIs_any neg A _ c l _ rfl hm (hl.below (ba (b0 _) _))).mono ?_
    rintro e w1 ⟨rfl, hb⟩
    rw [HP.out]
    go_wp2_with fail
    go_returns
    exact ⟨rfl, bt (ba (b0 _) _) hb⟩
  · have hW0 := fun W h => Rword_any A l.length c 0 l W rfl hm (by omega) (by omega) h
    have hW1 := fun W h => Rword_any A l.length c 1 l W rfl hm (by omega) (by omega) h
    rw [show Int.toNat 0 = 0 from rfl] at hW0
    rw [show Int.toNat 1 = 1 from rfl] at hW1
    have HW0 := Lib.hid hW0
    have HW1 := Lib.hid hW1
    have b1 := hl.lt 0
    have b2' := hl.lt 1
    clear hW0 hW1
    obtain ⟨x, hx⟩ : ∃ x, x = gd l 0 := ⟨_, rfl⟩
    obtain ⟨y, hy⟩ : ∃ y, y = gd l 1 := ⟨_, rfl⟩
    rw [← hx] at HW0 b1
    rw [← hy] at HW1 b2'
    obtain ⟨m, hm1⟩ : ∃ m, m = x + 4294967296 * y := ⟨_, rfl⟩
    have hor := or64 x y b1 b2'
    rw [← hm1] at hor
    have hmv : l.length ≤ 2 → val l = m := fun h => by rw [val_two h, hm1, hx, hy]
    have hml : m < 18446744073709551616 := by omega
    clear hm1 hx hy
    by_cases h2 : l.length > 2
    · rw [show smallV true neg l = (0, 2) from by simp [smallV, h2]]
      have h2i : (2 : Int) < (l.length : Int) := by omega
      clear hmv
      go_enter Tryz.func9, Tryz.ntmps9
      go_wp2_with fail
      refine (RIs_any neg A _ c l _ rfl hm (hl.below (ba (b0 _) _))).mono ?_
      rintro e w1 ⟨rfl, hb⟩
      rw [HP.out]
      have hbx := (Box2.new w (.bool neg) (.slice A l.length c)).below hb
      have c0 := hbx.cell0
      have c1 := hbx.cell1
      have hl1 := hl.below (bt (ba (b0 _) _) hb)
      go_wp2_with fail
      go_quiet ((go_at_call 45; first | (with_reducible exact quiet_w (HW0.out _ (hl1.below (bd (b0 _) _)))) | (with_reducible exact quiet_w (HW1.out _ (hl1.below (bd (b0 _) _))))))
      go_wp2_with fail
      go_returns
      exact ⟨rfl, bd (bt (ba (b0 _) _) hb) _⟩
    · have h2i : ¬ (2 : Int) < (l.length : Int) := by omega
      rw [small_spec (by omega)]
      unfold zI
      rw [hmv (by omega)]
      clear hmv h2
      cases neg
      · by_cases hg : m ≥ 9223372036854775808
        · have hgi : (9223372036854775808 : Int) ≤ (m : Int) := by omega
          simp only [Bool.not_true, Bool.false_eq_true, if_false, Bool.false_and, Bool.false_or, Bool.not_false, Bool.true_and, hg, decide_true, if_true]
          go_enter Tryz.func9, Tryz.ntmps9
          go_wp2_with fail
          refine (RIs_any false A _ c l _ rfl hm (hl.below (ba (b0 _) _))).mono ?_
          rintro e w1 ⟨rfl, hb⟩
          rw [HP.out]
          have hbx := (Box2.new w (.bool false) (.slice A l.length c)).below hb
          have c0 := hbx.cell0
          have c1 := hbx.cell1
          have hl1 := hl.below (bt (ba (b0 _) _) hb)
          go_wp2_with fail
          go_quiet ((go_at_call 45; first | (with_reducible exact quiet_w (HW0.out _ (hl1.below (bd (b0 _) _)))) | (with_reducible exact quiet_w (HW1.out _ (hl1.below (bd (b0 _) _))))))
          go_wp2_with fail
          go_returns
          exact ⟨rfl, bd (bt (ba (b0 _) _) hb) _⟩
        · have hgi : (m : Int) < 9223372036854775808 := by omega
          have hgd : ((9223372036854775808 : Int) ≤ (m : Int)) = False := eq_false (by omega)
          have hw1 : wrap64 (m : Int) = (m : Int) := by unfold wrap64; omega
          simp only [Bool.not_true, Bool.false_eq_true, if_false, Bool.false_and, Bool.false_or, Bool.not_false, Bool.true_and, hg, decide_false]
          clear hg hml hgi
          go_enter Tryz.func9, Tryz.ntmps9
          go_wp2_with fail
          refine (RIs_any false A _ c l _ rfl hm (hl.below (ba (b0 _) _))).mono ?_
          rintro e w1 ⟨rfl, hb⟩
          rw [HP.out]
          have hbx := (Box2.new w (.bool false) (.slice A l.length c)).below hb
          have c0 := hbx.cell0
          have c1 := hbx.cell1
          have hl1 := hl.below (bt (ba (b0 _) _) hb)
          go_wp2_with fail
          go_quiet ((go_at_call 45; first | (with_reducible exact quiet_w (HW0.out _ (hl1.below (bd (b0 _) _)))) | (with_reducible exact quiet_w (HW1.out _ (hl1.below (bd (b0 _) _))))))
          go_wp2_with fail
          go_returns
          exact ⟨by show Ending.returned (.tuple #[.int .i64 (wrap64 (m : Int)), .int .i64 0]) = _; rw [hw1], bd (bt (ba (b0 _) _) hb) _⟩
      · by_cases hg : m > 9223372036854775808
        · have hgi : (9223372036854775808 : Int) < (m : Int) := by omega
          simp only [Bool.not_true, Bool.false_eq_true, if_false, Bool.false_and, Bool.or_false, Bool.true_and, hg, decide_true, if_true]
          go_enter Tryz.func9, Tryz.ntmps9
          go_wp2_with fail
          refine (RIs_any true A _ c l _ rfl hm (hl.below (ba (b0 _) _))).mono ?_
          rintro e w1 ⟨rfl, hb⟩
          rw [HP.out]
          have hbx := (Box2.new w (.bool true) (.slice A l.length c)).below hb
          have c0 := hbx.cell0
          have c1 := hbx.cell1
          have hl1 := hl.below (bt (ba (b0 _) _) hb)
          go_wp2_with fail
          go_quiet ((go_at_call 45; first | (with_reducible exact quiet_w (HW0.out _ (hl1.below (bd (b0 _) _)))) | (with_reducible exact quiet_w (HW1.out _ (hl1.below (bd (b0 _) _))))))
          go_wp2_with fail
          go_returns
          exact ⟨rfl, bd (bt (ba (b0 _) _) hb) _⟩
        · have hgi : ¬ (9223372036854775808 : Int) < (m : Int) := by omega
          have hw2 : IntKind.i64.wrap (IntKind.u64.wrap (-(m : Int))) = -(m : Int) := by
            rcases Nat.eq_zero_or_pos m with h0 | h0
            · subst h0; rfl
            · rw [IntKind.wrap_i64, IntKind.wrap_u64]; omega
          simp only [Bool.not_true, Bool.false_eq_true, if_false, Bool.false_and, Bool.or_false, Bool.true_and, hg, decide_false, if_true]
          clear hg
          go_enter Tryz.func9, Tryz.ntmps9
          go_wp2_with fail
          refine (RIs_any true A _ c l _ rfl hm (hl.below (ba (b0 _) _))).mono ?_
          rintro e w1 ⟨rfl, hb⟩
          rw [HP.out]
          have hbx := (Box2.new w (.bool true) (.slice A l.length c)).below hb
          have c0 := hbx.cell0
          have c1 := hbx.cell1
          have hl1 := hl.below (bt (ba (b0 _) _) hb)
          go_wp2_with fail
          go_quiet ((go_at_call 45; first | (with_reducible exact quiet_w (HW0.out _ (hl1.below (bd (b0 _) _)))) | (with_reducible exact quiet_w (HW1.out _ (hl1.below (bd (b0 _) _))))))
          go_wp2_with fail
          go_returns
          exact ⟨rfl, bd (bt (ba (b0 _) _) hb) _⟩
end Go.Proofs.YtjijifdnhbkjaaaGreatDoor
