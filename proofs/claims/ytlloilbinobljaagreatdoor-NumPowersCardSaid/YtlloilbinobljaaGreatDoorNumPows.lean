/- NumPowers: what both Pow and both Sqrt give, and the law's walk. -/
import Derived.Test.YtlloilbinobljaaGreatDoorNumSpR
import Derived.Test.YtlloilbinobljaaGreatDoorNumEx
import Derived.Deep.RegionWith
import Derived.Deep.DeepCutAuto
import Derived.Outline
set_option linter.unusedSimpArgs false
set_option linter.unusedVariables false
namespace Go.Proofs.YtlloilbinobljaaGreatDoor
open Go.RowKit Go.Shelf

/-- A call returned an integer and an error. -/
def PZ (z er : Int) (W : World) (e : Ending) (w' : World) : Prop :=
  ∃ n A c l, e = .returned (.tuple #[.agg #[.bool n, .slice A l.length c], .int .i64 er]) ∧ WS w' A l ∧ isB n l = true ∧ zI n l = z ∧ l.length ≤ 1000000 ∧ Below W.heap.size W w'
theorem ErrE.pz {W : World} {er : Int} {e : Ending} {w' : World} (h : ErrE er W e w') : PZ 0 er W e w' := ⟨false, none, 0, [], h.1, WS.nil_ _ _, rfl, rfl, by decide, h.2⟩
theorem RIE.pz {W : World} {z : Int} {e : Ending} {w' : World} (h : RIE W z e w') : PZ z 0 W e w' := by
  obtain ⟨n, A, c, l, he, i, hb⟩ := h
  have := i.len
  exact ⟨n, A, c, l, he, i.ws, i.can, i.val, by omega, hb⟩
theorem pow_fit {l : List Nat} {N : Nat} (hw : ∀ x ∈ l, x < 4294967296) (ht : Top l) (h : bl l * N ≤ 5000) : ∀ m, m ≤ N → val l ^ m < BB 200 := fun m hm => by
  have h1 : val l ^ m ≤ (2 ^ bl l) ^ m := Nat.pow_le_pow_left (Nat.le_of_lt (bl_lt hw ht)) m
  rw [← Nat.pow_mul] at h1
  have h2 : bl l * m ≤ bl l * N := Nat.mul_le_mul_left _ hm
  have h3 : 2 ^ (bl l * m) < BB 200 := pow2_lt (by omega)
  omega
theorem pow_fit1 {l : List Nat} {N : Nat} (h : val l ≤ 1) : ∀ m, m ≤ N → val l ^ m < BB 200 := fun m _ => by
  have h1 : val l ^ m ≤ 1 ^ m := Nat.pow_le_pow_left h m
  rw [Nat.one_pow] at h1
  have h2 : BB 0 < BB 200 := Nat.pow_lt_pow_right (by decide) (by decide)
  have h3 : BB 0 = 1 := rfl
  omega
theorem pow_pz {W : World} {neg : Bool} {l : List Nat} {N : Nat} {e : Ending} {w' : World} (hf : val l ^ N < BB 200)
    (h : ∃ n1 A1 c1 l1, e = .returned (.tuple #[.agg #[.bool n1, .slice A1 l1.length c1], .int .i64 0]) ∧ IP W w' n1 A1 c1 l1 (zI neg l ^ N) ∧ Below W.heap.size W w') : PZ (zI neg l ^ N) 0 W e w' := by
  obtain ⟨n1, A1, c1, l1, he, hi, hb⟩ := h
  refine ⟨n1, A1, c1, l1, he, hi.2.1.ws, hi.2.2.1, hi.2.2.2, ?_, hb⟩
  have h1 : val l1 = val l ^ N := by
    have h2 : (zI n1 l1).natAbs = val l1 := by unfold zI; split <;> simp
    have h3 : (zI neg l).natAbs = val l := by unfold zI; split <;> simp
    rw [← h2, hi.2.2.2, natAbs_pow', h3]
  have := top_len (isB_top hi.2.2.1) (by rw [h1]; exact hf)
  omega

/-- Both Pow of one integer and one exponent give one integer and one error. -/
theorem pows_both (w : World) (neg : Bool) (A : Option Addr) (c : Nat) (l : List Nat) (n : Int) (hm : l.length ≤ 40) (hc : l.length ≤ c) (hl : WS w A l) (hn : n < 9223372036854775808)
    (hk : isB neg l = true → 1 < bl l → 0 ≤ n → n ≤ (5000 / bl l : Nat) ∨ (1048576 / bl l : Nat) < n) :
    ∃ z er, ∀ W, Below w.heap.size w W → Calls Tryz.prog 30 #[.agg #[.bool neg, .slice A l.length c], .int .i64 n] W (PZ z er W) ∧ Calls Tryz.prog 31 #[.agg #[.bool neg, .slice A l.length c], .int .i64 n] W (PZ z er W) := by
  rcases Bool.eq_false_or_eq_true (isB neg l) with hB | hB
  · by_cases h0 : n < 0
    · exact ⟨0, 1, fun W hW => ⟨(Pow_arg W neg A c l n h0 (by omega) hB (hl.below hW)).mono fun e w' h => h.pz, (RPow_arg W neg A c l n h0 (by omega) hB (hl.below hW)).mono fun e w' h => h.pz⟩⟩
    · obtain ⟨N, rfl⟩ : ∃ N : Nat, n = (N : Int) := ⟨n.toNat, by omega⟩
      have hN : N < 9223372036854775808 := by omega
      by_cases h1 : 1 < bl l
      · rcases hk hB h1 (by omega) with h2 | h2
        · have h2' : N ≤ 5000 / bl l := by exact_mod_cast h2
          have h3 : N * bl l ≤ 5000 := (Nat.le_div_iff_mul_le (by omega)).1 h2'
          have hf := pow_fit hl.1 (isB_top hB) (N := N) (by rw [Nat.mul_comm]; exact h3)
          have h4 : N ≤ 1048576 / bl l := (Nat.le_div_iff_mul_le (by omega)).2 (by omega)
          refine ⟨zI neg l ^ N, 0, fun W hW => ⟨?_, ?_⟩⟩
          · exact (Pow_gen W W neg A c l N 200 (by decide) (by omega) hc hN hf hB (fun h => by omega) (hl.below hW) (b0 _)).mono fun e w' h => pow_pz (hf N (Nat.le_refl _)) h
          · exact (RPow_main (z := zI neg l) ⟨hc, hl.below hW, hB, rfl, by omega⟩ h1 h4 hf).mono fun e w' h => h.pz
        · exact ⟨0, 2, fun W hW => ⟨(Pow_limit W neg A c l N h1 h2 (by omega) hB (hl.below hW)).mono fun e w' h => h.pz, (RPow_limit W neg A c l N h1 h2 (by omega) hB (hl.below hW)).mono fun e w' h => h.pz⟩⟩
      · have hv := bl_small hl.1 (isB_top hB) (by omega)
        have hf := pow_fit1 (N := N) hv
        refine ⟨zI neg l ^ N, 0, fun W hW => ⟨?_, ?_⟩⟩
        · exact (Pow_gen W W neg A c l N 200 (by decide) (by omega) hc hN hf hB (fun h => h1 h.1) (hl.below hW) (b0 _)).mono fun e w' h => pow_pz (hf N (Nat.le_refl _)) h
        · exact (RPow_small (z := zI neg l) N ⟨hc, hl.below hW, hB, rfl, by omega⟩ (by omega)).mono fun e w' h => h.pz
  · exact ⟨0, 3, fun W hW => ⟨(Pow_form W neg A c l n (by omega) hB (hl.below hW)).mono fun e w' h => h.pz, (RPow_form W neg A c l n (by omega) hB (hl.below hW)).mono fun e w' h => h.pz⟩⟩

theorem sqrt_ex (V : Nat) : ∃ r : Nat, r * r ≤ V ∧ V < (r + 1) * (r + 1) := by
  induction V with
  | zero => exact ⟨0, by omega, by omega⟩
  | succ V ih =>
    obtain ⟨r, h1, h2⟩ := ih
    by_cases h : (r + 1) * (r + 1) ≤ V + 1
    · refine ⟨r + 1, h, ?_⟩
      have e : (r + 1 + 1) * (r + 1 + 1) = (r + 1) * (r + 1) + (r + 1) + (r + 1) + 1 := by
        rw [Nat.add_mul (r + 1) 1, Nat.mul_add (r + 1)]; omega
      omega
    · exact ⟨r, by omega, by omega⟩
theorem rsq_pz {W : World} {V r : Nat} {e : Ending} {w' : World} (h1 : r * r ≤ V) (h2 : V < (r + 1) * (r + 1)) (h : RSQ W (V : Int) e w') : PZ (r : Int) 0 W e w' := by
  obtain ⟨s, hs0, hs1, hs2, hs3⟩ := h
  obtain ⟨t, rfl⟩ : ∃ t : Nat, s = (t : Int) := ⟨s.toNat, by omega⟩
  have g1 : t * t ≤ V := by exact_mod_cast hs1
  have g2 : V < (t + 1) * (t + 1) := by exact_mod_cast hs2
  have e1 : t = r := by
    rcases Nat.lt_trichotomy t r with h | h | h
    · have := Nat.mul_le_mul (show t + 1 ≤ r from h) (show t + 1 ≤ r from h); omega
    · exact h
    · have := Nat.mul_le_mul (show r + 1 ≤ t from h) (show r + 1 ≤ t from h); omega
  subst e1
  exact hs3.pz
/-- Both Sqrt of one integer give one integer and one error. -/
theorem sqrts_both (w : World) (neg : Bool) (A : Option Addr) (c : Nat) (l : List Nat) (hm : l.length ≤ 40) (hc : l.length ≤ c) (hl : WS w A l) :
    ∃ z er, ∀ W, Below w.heap.size w W → Calls Tryz.prog 27 #[.agg #[.bool neg, .slice A l.length c]] W (PZ z er W) ∧ Calls Tryz.prog 28 #[.agg #[.bool neg, .slice A l.length c]] W (PZ z er W) := by
  rcases Bool.eq_false_or_eq_true (isB neg l) with hB | hB
  · cases neg
    · obtain ⟨r, h1, h2⟩ := sqrt_ex (val l)
      refine ⟨(r : Int), 0, fun W hW => ⟨?_, ?_⟩⟩
      · exact (Sqrt_iv (z := (val l : Int)) ⟨hc, hl.below hW, hB, rfl, by omega⟩ (by omega)).mono fun e w' h => rsq_pz h1 h2 h
      · exact (RSqrt_val W A c l (by omega) hB (hl.below hW)).mono fun e w' h => rsq_pz h1 h2 h
    · exact ⟨0, 1, fun W hW => ⟨(Sqrt_arg W A c l (by omega) hB (hl.below hW)).mono fun e w' h => h.pz, (RSqrt_arg W A c l (by omega) hB (hl.below hW)).mono fun e w' h => h.pz⟩⟩
  · exact ⟨0, 3, fun W hW => ⟨(Sqrt_form W neg A c l (by omega) hB (hl.below hW)).mono fun e w' h => h.pz, (RSqrt_form W neg A c l (by omega) hB (hl.below hW)).mono fun e w' h => h.pz⟩⟩

set_option maxRecDepth 100000 in
set_option maxHeartbeats 2000000 in
theorem NumPowers_long (w : World) (na : Bool) (A : Option Addr) (x ca : Nat) (n : Int) (hlong : ¬ x ≤ 40) (hT : Tens w) :
    Calls Tryz.prog 4 #[.agg #[.bool na, .slice A x ca], .int .i64 n] w fun e w' => e = .returned (.bool true) ∧ Below w.heap.size w w' := by
  have HTn := Lib.hid hT
  have hsh := fun W => short_wide 40 na na na A A A x x x ca ca ca W (by omega) false (by rw [Bool.eq_false_iff]; intro h; simp only [Bool.and_eq_true, decide_eq_true_eq] at h; exact hlong h.2)
  have HSH := Lib.hid hsh
  clear hT hsh hlong
  go_enter Tryz.func4, Tryz.ntmps4
  go_wp2_with fail
  refine (HSH.out _).mono ?_
  rintro e w2 ⟨rfl, hb2⟩
  have hb : Below w.heap.size w w2 := bt (ba (b0 _) _) hb2
  go_wp2_with fail
  refine (sane_any w2 (HTn.out.below hb)).mono ?_
  rintro e w3 ⟨rfl, hb3⟩
  go_wp2_with fail
  go_ret
  exact ⟨rfl, bt hb hb3⟩

set_option maxRecDepth 100000 in
set_option maxHeartbeats 8000000 in
theorem NumPowers_A (w : World) (na : Bool) (A : Option Addr) (ca : Nat) (l : List Nat) (n : Int) (m : Nat) (hl : WS w A l) (hca : l.length ≤ ca) (hx : l.length ≤ 40) (hn : n < 9223372036854775808) (hmb : m ≤ 1280)
    (HBI : Hid (∀ W, Below w.heap.size w W → Calls Tryz.prog 29 #[.agg #[.bool na, .slice A l.length ca]] W fun e w' => e = .returned (.int .i64 (m : Int)) ∧ Below W.heap.size W w'))
    (h1 : 1 < m) (h5 : ((5000 / m : Nat) : Int) < n) (h20 : n ≤ ((1048576 / m : Nat) : Int)) (hT : Tens w) :
    Calls Tryz.prog 4 #[.agg #[.bool na, .slice A l.length ca], .int .i64 n] w fun e w' => e = .returned (.bool true) ∧ Below w.heap.size w w' := by
  have HTn := Lib.hid hT
  have hsh := fun W => short_wide 40 na na na A A A l.length l.length l.length ca ca ca W (by omega) true (by simp [hx])
  have HSH := Lib.hid hsh
  obtain ⟨z, er, hP⟩ := sqrts_both w na A ca l hx hca hl
  have HP := Lib.hid hP
  have hbi : (1 : Int) < (m : Int) := by omega
  have hm0 : ((m : Int) == 0) = false := beq_eq_false_iff_ne.2 (by omega)
  obtain ⟨d5, hd5⟩ : ∃ d, d = 5000 / m := ⟨_, rfl⟩
  obtain ⟨d20, hd20⟩ : ∃ d, d = 1048576 / m := ⟨_, rfl⟩
  have hdl5 : d5 ≤ 5000 := by rw [hd5]; exact Nat.div_le_self _ _
  have hdl20 : d20 ≤ 1048576 := by rw [hd20]; exact Nat.div_le_self _ _
  have hdiv5 : (5000 : Int).tdiv (m : Int) = (d5 : Int) := by rw [Int.tdiv_eq_ediv_of_nonneg (by omega), hd5]; simp
  have hdiv20 : (1048576 : Int).tdiv (m : Int) = (d20 : Int) := by rw [Int.tdiv_eq_ediv_of_nonneg (by omega), hd20]; simp
  have h5i : (d5 : Int) < n := by rw [hd5]; exact h5
  have h20i : n ≤ (d20 : Int) := by rw [hd20]; exact h20
  clear h1 h5 h20 hd5 hd20
  clear hT hsh hP hl hx hn hca
  go_enter Tryz.func4, Tryz.ntmps4
  go_wp2_with fail
  obtain ⟨W1, hW1⟩ : ∃ W, W = w.alloc (bx na A l.length ca) := ⟨_, rfl⟩
  have Y0 : Box2 W1 w.heap.size (.bool na) (.slice A l.length ca) := by rw [hW1]; exact Box2.new w _ _
  have K1 : Below w.heap.size w W1 := by rw [hW1]; exact ba (b0 _) _
  change Calls _ _ _ (w.alloc (bx na A l.length ca)) _
  rw [← hW1]
  clear hW1
  refine (HSH.out W1).mono ?_
  rintro e w2 ⟨rfl, hb2⟩
  have K2 : Below w.heap.size w w2 := bt K1 hb2
  have Y2 := Y0.below hb2
  have y0 := Y2.cell0
  have y1 := Y2.cell1
  clear Y0 K1 hb2 HSH
  go_wp2_with fail
  refine (HP.out w2 K2).1.mono ?_
  rintro e w3 ⟨n3, A3, c3, l3, rfl, hwb, hBb, hzb, hlb, hb⟩
  have V3 := Lib.hid (And.intro hwb (And.intro hBb (And.intro hzb hlb)))
  have K3 := bt K2 hb
  have Y3 := Y2.below hb
  clear hwb hBb hzb hlb hb K2 Y2 y0 y1
  go_upto_region 4 with fail
  obtain ⟨w4, hw⟩ : ∃ W, W = w3.alloc (.cells #[.bool n3, .slice A3 l3.length c3] 24) := ⟨_, rfl⟩
  have X4 : Box2 w4 w3.heap.size (.bool n3) (.slice A3 l3.length c3) := by rw [hw]; exact Box2.new _ _ _
  have hb : Below w3.heap.size w3 w4 := by rw [hw]; exact ba (b0 _) _
  rw [← hw]
  clear hw
  have K4 := bt K3 hb
  have Y4 := Y3.below hb
  have S4 := Lib.hid (V3.out.1.below hb)
  have y0 := Y4.cell0
  have y1 := Y4.cell1
  clear K3 Y3 hb
  go_wp2_with fail
  refine (HP.out w4 K4).2.mono ?_
  rintro e w5 ⟨n5, A5, c5, l5, rfl, hwb, hBb, hzb, hlb, hb⟩
  have V5 := Lib.hid (And.intro hwb (And.intro hBb (And.intro hzb hlb)))
  have K5 := bt K4 hb
  have Y5 := Y4.below hb
  have X5 := X4.below hb
  have S5 := Lib.hid (S4.out.below hb)
  clear hwb hBb hzb hlb hb K4 Y4 X4 S4 y0 y1
  go_upto_region 5 with fail
  obtain ⟨w6, hw⟩ : ∃ W, W = w5.alloc (.cells #[.bool n5, .slice A5 l5.length c5] 24) := ⟨_, rfl⟩
  have Z6 : Box2 w6 w5.heap.size (.bool n5) (.slice A5 l5.length c5) := by rw [hw]; exact Box2.new _ _ _
  have hb : Below w5.heap.size w5 w6 := by rw [hw]; exact ba (b0 _) _
  rw [← hw]
  clear hw
  have K6 := bt K5 hb
  have Y6 := Y5.below hb
  have X6 := X5.below hb
  have S6 := Lib.hid (S5.out.below hb)
  have R6 := Lib.hid (V5.out.1.below hb)
  clear K5 Y5 X5 S5 hb
  have x0 := X6.cell0
  have x1 := X6.cell1
  have u0 := Z6.cell0
  have u1 := Z6.cell1
  go_wp2_with fail
  refine (same_of S6.out R6.out V3.out.2.1 V5.out.2.1 V3.out.2.2.1 V5.out.2.2.1 (by have := V3.out.2.2.2; omega) (by have := V5.out.2.2.2; omega)).mono ?_
  rintro e w7 ⟨rfl, hb7⟩
  have K7 := bt K6 hb7
  have Y7 := Y6.below hb7
  have y0 := Y7.cell0
  have y1 := Y7.cell1
  clear x0 x1 u0 u1 X6 Z6 S6 R6 V3 V5 K6 Y6 hb7
  go_wp2_with fail
  refine (HBI.out w7 K7).mono ?_
  rintro e w8 ⟨rfl, hb8⟩
  have K8 := bt K7 hb8
  have Y8 := Y7.below hb8
  have y0 := Y8.cell0
  have y1 := Y8.cell1
  clear K7 Y7 hb8
  go_wp2_with fail
  refine (sane_any w8 (HTn.out.below K8)).mono ?_
  rintro e w9 ⟨rfl, hb9⟩
  go_wp2_with fail
  go_ret
  exact ⟨rfl, bt K8 hb9⟩

set_option maxRecDepth 100000 in
set_option maxHeartbeats 8000000 in
theorem NumPowers_B1 (w : World) (na : Bool) (A : Option Addr) (ca : Nat) (l : List Nat) (n : Int) (m : Nat) (hl : WS w A l) (hca : l.length ≤ ca) (hx : l.length ≤ 40) (hn : n < 9223372036854775808) (hmb : m ≤ 1280)
    (HBI : Hid (∀ W, Below w.heap.size w W → Calls Tryz.prog 29 #[.agg #[.bool na, .slice A l.length ca]] W fun e w' => e = .returned (.int .i64 (m : Int)) ∧ Below W.heap.size W w'))
    (hk : isB na l = true → 1 < bl l → 0 ≤ n → n ≤ (5000 / bl l : Nat) ∨ (1048576 / bl l : Nat) < n) (h1 : ¬ 1 < m) (hT : Tens w) :
    Calls Tryz.prog 4 #[.agg #[.bool na, .slice A l.length ca], .int .i64 n] w fun e w' => e = .returned (.bool true) ∧ Below w.heap.size w w' := by
  have HTn := Lib.hid hT
  have hsh := fun W => short_wide 40 na na na A A A l.length l.length l.length ca ca ca W (by omega) true (by simp [hx])
  have HSH := Lib.hid hsh
  obtain ⟨z, er, hP⟩ := sqrts_both w na A ca l hx hca hl
  have HP := Lib.hid hP
  obtain ⟨z2, er2, hP2⟩ := pows_both w na A ca l n hx hca hl hn hk
  have HP2 := Lib.hid hP2
  clear hP2 hk
  have hbi : ¬ (1 : Int) < (m : Int) := by omega
  clear h1
  clear hT hsh hP hl hx hn hca
  go_enter Tryz.func4, Tryz.ntmps4
  go_wp2_with fail
  obtain ⟨W1, hW1⟩ : ∃ W, W = w.alloc (bx na A l.length ca) := ⟨_, rfl⟩
  have Y0 : Box2 W1 w.heap.size (.bool na) (.slice A l.length ca) := by rw [hW1]; exact Box2.new w _ _
  have K1 : Below w.heap.size w W1 := by rw [hW1]; exact ba (b0 _) _
  change Calls _ _ _ (w.alloc (bx na A l.length ca)) _
  rw [← hW1]
  clear hW1
  refine (HSH.out W1).mono ?_
  rintro e w2 ⟨rfl, hb2⟩
  have K2 : Below w.heap.size w w2 := bt K1 hb2
  have Y2 := Y0.below hb2
  have y0 := Y2.cell0
  have y1 := Y2.cell1
  clear Y0 K1 hb2 HSH
  go_wp2_with fail
  refine (HP.out w2 K2).1.mono ?_
  rintro e w3 ⟨n3, A3, c3, l3, rfl, hwb, hBb, hzb, hlb, hb⟩
  have V3 := Lib.hid (And.intro hwb (And.intro hBb (And.intro hzb hlb)))
  have K3 := bt K2 hb
  have Y3 := Y2.below hb
  clear hwb hBb hzb hlb hb K2 Y2 y0 y1
  go_upto_region 4 with fail
  obtain ⟨w4, hw⟩ : ∃ W, W = w3.alloc (.cells #[.bool n3, .slice A3 l3.length c3] 24) := ⟨_, rfl⟩
  have X4 : Box2 w4 w3.heap.size (.bool n3) (.slice A3 l3.length c3) := by rw [hw]; exact Box2.new _ _ _
  have hb : Below w3.heap.size w3 w4 := by rw [hw]; exact ba (b0 _) _
  rw [← hw]
  clear hw
  have K4 := bt K3 hb
  have Y4 := Y3.below hb
  have S4 := Lib.hid (V3.out.1.below hb)
  have y0 := Y4.cell0
  have y1 := Y4.cell1
  clear K3 Y3 hb
  go_wp2_with fail
  refine (HP.out w4 K4).2.mono ?_
  rintro e w5 ⟨n5, A5, c5, l5, rfl, hwb, hBb, hzb, hlb, hb⟩
  have V5 := Lib.hid (And.intro hwb (And.intro hBb (And.intro hzb hlb)))
  have K5 := bt K4 hb
  have Y5 := Y4.below hb
  have X5 := X4.below hb
  have S5 := Lib.hid (S4.out.below hb)
  clear hwb hBb hzb hlb hb K4 Y4 X4 S4 y0 y1
  go_upto_region 5 with fail
  obtain ⟨w6, hw⟩ : ∃ W, W = w5.alloc (.cells #[.bool n5, .slice A5 l5.length c5] 24) := ⟨_, rfl⟩
  have Z6 : Box2 w6 w5.heap.size (.bool n5) (.slice A5 l5.length c5) := by rw [hw]; exact Box2.new _ _ _
  have hb : Below w5.heap.size w5 w6 := by rw [hw]; exact ba (b0 _) _
  rw [← hw]
  clear hw
  have K6 := bt K5 hb
  have Y6 := Y5.below hb
  have X6 := X5.below hb
  have S6 := Lib.hid (S5.out.below hb)
  have R6 := Lib.hid (V5.out.1.below hb)
  clear K5 Y5 X5 S5 hb
  have x0 := X6.cell0
  have x1 := X6.cell1
  have u0 := Z6.cell0
  have u1 := Z6.cell1
  go_wp2_with fail
  refine (same_of S6.out R6.out V3.out.2.1 V5.out.2.1 V3.out.2.2.1 V5.out.2.2.1 (by have := V3.out.2.2.2; omega) (by have := V5.out.2.2.2; omega)).mono ?_
  rintro e w7 ⟨rfl, hb7⟩
  have K7 := bt K6 hb7
  have Y7 := Y6.below hb7
  have y0 := Y7.cell0
  have y1 := Y7.cell1
  clear x0 x1 u0 u1 X6 Z6 S6 R6 V3 V5 K6 Y6 hb7
  go_wp2_with fail
  refine (HBI.out w7 K7).mono ?_
  rintro e w8 ⟨rfl, hb8⟩
  have K8 := bt K7 hb8
  have Y8 := Y7.below hb8
  have y0 := Y8.cell0
  have y1 := Y8.cell1
  clear K7 Y7 hb8
  go_wp2_with fail
  refine (HP2.out w8 K8).1.mono ?_
  rintro e w9 ⟨n9, A9, c9, l9, rfl, hwb, hBb, hzb, hlb, hb⟩
  have V9 := Lib.hid (And.intro hwb (And.intro hBb (And.intro hzb hlb)))
  have K9 := bt K8 hb
  have Y9 := Y8.below hb
  clear hwb hBb hzb hlb hb K8 Y8 y0 y1
  go_upto_region 11 with fail
  obtain ⟨w10, hw⟩ : ∃ W, W = w9.alloc (.cells #[.bool n9, .slice A9 l9.length c9] 24) := ⟨_, rfl⟩
  have X10 : Box2 w10 w9.heap.size (.bool n9) (.slice A9 l9.length c9) := by rw [hw]; exact Box2.new _ _ _
  have hb : Below w9.heap.size w9 w10 := by rw [hw]; exact ba (b0 _) _
  rw [← hw]
  clear hw
  have K10 := bt K9 hb
  have Y10 := Y9.below hb
  have S10 := Lib.hid (V9.out.1.below hb)
  have y0 := Y10.cell0
  have y1 := Y10.cell1
  clear K9 Y9 hb
  go_wp2_with fail
  refine (HP2.out w10 K10).2.mono ?_
  rintro e w11 ⟨n11, A11, c11, l11, rfl, hwb, hBb, hzb, hlb, hb⟩
  have V11 := Lib.hid (And.intro hwb (And.intro hBb (And.intro hzb hlb)))
  have K11 := bt K10 hb
  have Y11 := Y10.below hb
  have X11 := X10.below hb
  have S11 := Lib.hid (S10.out.below hb)
  clear hwb hBb hzb hlb hb K10 Y10 X10 S10 y0 y1
  go_upto_region 12 with fail
  obtain ⟨w12, hw⟩ : ∃ W, W = w11.alloc (.cells #[.bool n11, .slice A11 l11.length c11] 24) := ⟨_, rfl⟩
  have Z12 : Box2 w12 w11.heap.size (.bool n11) (.slice A11 l11.length c11) := by rw [hw]; exact Box2.new _ _ _
  have hb : Below w11.heap.size w11 w12 := by rw [hw]; exact ba (b0 _) _
  rw [← hw]
  clear hw
  have K12 := bt K11 hb
  have Y12 := Y11.below hb
  have X12 := X11.below hb
  have S12 := Lib.hid (S11.out.below hb)
  have R12 := Lib.hid (V11.out.1.below hb)
  clear K11 Y11 X11 S11 hb
  have x0 := X12.cell0
  have x1 := X12.cell1
  have u0 := Z12.cell0
  have u1 := Z12.cell1
  have HX := Lib.hid X12
  have HZ := Lib.hid Z12
  have HK := Lib.hid K12
  clear K12 Y12 X12 Z12
  go_wp2_with fail
  refine (sane_any w12 (HTn.out.below HK.out)).mono ?_
  rintro e w13 ⟨rfl, hb13⟩
  have hX := HX.out.below hb13
  have hZ := HZ.out.below hb13
  clear x0 x1 u0 u1
  have x0 := hX.cell0
  have x1 := hX.cell1
  have u0 := hZ.cell0
  have u1 := hZ.cell1
  go_wp2_with fail
  refine (same_of (S12.out.below hb13) (R12.out.below hb13) V9.out.2.1 V11.out.2.1 V9.out.2.2.1 V11.out.2.2.1 (by have := V9.out.2.2.2; omega) (by have := V11.out.2.2.2; omega)).mono ?_
  rintro e w14 ⟨rfl, hb14⟩
  go_wp2_with fail
  go_ret
  exact ⟨rfl, bt (bt HK.out hb13) hb14⟩

set_option maxRecDepth 100000 in
set_option maxHeartbeats 8000000 in
theorem NumPowers_B2 (w : World) (na : Bool) (A : Option Addr) (ca : Nat) (l : List Nat) (n : Int) (m : Nat) (hl : WS w A l) (hca : l.length ≤ ca) (hx : l.length ≤ 40) (hn : n < 9223372036854775808) (hmb : m ≤ 1280)
    (HBI : Hid (∀ W, Below w.heap.size w W → Calls Tryz.prog 29 #[.agg #[.bool na, .slice A l.length ca]] W fun e w' => e = .returned (.int .i64 (m : Int)) ∧ Below W.heap.size W w'))
    (hk : isB na l = true → 1 < bl l → 0 ≤ n → n ≤ (5000 / bl l : Nat) ∨ (1048576 / bl l : Nat) < n) (h1 : 1 < m) (h5 : ¬ ((5000 / m : Nat) : Int) < n) (hT : Tens w) :
    Calls Tryz.prog 4 #[.agg #[.bool na, .slice A l.length ca], .int .i64 n] w fun e w' => e = .returned (.bool true) ∧ Below w.heap.size w w' := by
  have HTn := Lib.hid hT
  have hsh := fun W => short_wide 40 na na na A A A l.length l.length l.length ca ca ca W (by omega) true (by simp [hx])
  have HSH := Lib.hid hsh
  obtain ⟨z, er, hP⟩ := sqrts_both w na A ca l hx hca hl
  have HP := Lib.hid hP
  obtain ⟨z2, er2, hP2⟩ := pows_both w na A ca l n hx hca hl hn hk
  have HP2 := Lib.hid hP2
  clear hP2 hk
  have hbi : (1 : Int) < (m : Int) := by omega
  have hm0 : ((m : Int) == 0) = false := beq_eq_false_iff_ne.2 (by omega)
  obtain ⟨d5, hd5⟩ : ∃ d, d = 5000 / m := ⟨_, rfl⟩
  obtain ⟨d20, hd20⟩ : ∃ d, d = 1048576 / m := ⟨_, rfl⟩
  have hdl5 : d5 ≤ 5000 := by rw [hd5]; exact Nat.div_le_self _ _
  have hdl20 : d20 ≤ 1048576 := by rw [hd20]; exact Nat.div_le_self _ _
  have hdiv5 : (5000 : Int).tdiv (m : Int) = (d5 : Int) := by rw [Int.tdiv_eq_ediv_of_nonneg (by omega), hd5]; simp
  have hdiv20 : (1048576 : Int).tdiv (m : Int) = (d20 : Int) := by rw [Int.tdiv_eq_ediv_of_nonneg (by omega), hd20]; simp
  have h5i : ¬ (d5 : Int) < n := by rw [hd5]; exact h5
  clear h1 h5 hd5 hd20
  clear hT hsh hP hl hx hn hca
  go_enter Tryz.func4, Tryz.ntmps4
  go_wp2_with fail
  obtain ⟨W1, hW1⟩ : ∃ W, W = w.alloc (bx na A l.length ca) := ⟨_, rfl⟩
  have Y0 : Box2 W1 w.heap.size (.bool na) (.slice A l.length ca) := by rw [hW1]; exact Box2.new w _ _
  have K1 : Below w.heap.size w W1 := by rw [hW1]; exact ba (b0 _) _
  change Calls _ _ _ (w.alloc (bx na A l.length ca)) _
  rw [← hW1]
  clear hW1
  refine (HSH.out W1).mono ?_
  rintro e w2 ⟨rfl, hb2⟩
  have K2 : Below w.heap.size w w2 := bt K1 hb2
  have Y2 := Y0.below hb2
  have y0 := Y2.cell0
  have y1 := Y2.cell1
  clear Y0 K1 hb2 HSH
  go_wp2_with fail
  refine (HP.out w2 K2).1.mono ?_
  rintro e w3 ⟨n3, A3, c3, l3, rfl, hwb, hBb, hzb, hlb, hb⟩
  have V3 := Lib.hid (And.intro hwb (And.intro hBb (And.intro hzb hlb)))
  have K3 := bt K2 hb
  have Y3 := Y2.below hb
  clear hwb hBb hzb hlb hb K2 Y2 y0 y1
  go_upto_region 4 with fail
  obtain ⟨w4, hw⟩ : ∃ W, W = w3.alloc (.cells #[.bool n3, .slice A3 l3.length c3] 24) := ⟨_, rfl⟩
  have X4 : Box2 w4 w3.heap.size (.bool n3) (.slice A3 l3.length c3) := by rw [hw]; exact Box2.new _ _ _
  have hb : Below w3.heap.size w3 w4 := by rw [hw]; exact ba (b0 _) _
  rw [← hw]
  clear hw
  have K4 := bt K3 hb
  have Y4 := Y3.below hb
  have S4 := Lib.hid (V3.out.1.below hb)
  have y0 := Y4.cell0
  have y1 := Y4.cell1
  clear K3 Y3 hb
  go_wp2_with fail
  refine (HP.out w4 K4).2.mono ?_
  rintro e w5 ⟨n5, A5, c5, l5, rfl, hwb, hBb, hzb, hlb, hb⟩
  have V5 := Lib.hid (And.intro hwb (And.intro hBb (And.intro hzb hlb)))
  have K5 := bt K4 hb
  have Y5 := Y4.below hb
  have X5 := X4.below hb
  have S5 := Lib.hid (S4.out.below hb)
  clear hwb hBb hzb hlb hb K4 Y4 X4 S4 y0 y1
  go_upto_region 5 with fail
  obtain ⟨w6, hw⟩ : ∃ W, W = w5.alloc (.cells #[.bool n5, .slice A5 l5.length c5] 24) := ⟨_, rfl⟩
  have Z6 : Box2 w6 w5.heap.size (.bool n5) (.slice A5 l5.length c5) := by rw [hw]; exact Box2.new _ _ _
  have hb : Below w5.heap.size w5 w6 := by rw [hw]; exact ba (b0 _) _
  rw [← hw]
  clear hw
  have K6 := bt K5 hb
  have Y6 := Y5.below hb
  have X6 := X5.below hb
  have S6 := Lib.hid (S5.out.below hb)
  have R6 := Lib.hid (V5.out.1.below hb)
  clear K5 Y5 X5 S5 hb
  have x0 := X6.cell0
  have x1 := X6.cell1
  have u0 := Z6.cell0
  have u1 := Z6.cell1
  go_wp2_with fail
  refine (same_of S6.out R6.out V3.out.2.1 V5.out.2.1 V3.out.2.2.1 V5.out.2.2.1 (by have := V3.out.2.2.2; omega) (by have := V5.out.2.2.2; omega)).mono ?_
  rintro e w7 ⟨rfl, hb7⟩
  have K7 := bt K6 hb7
  have Y7 := Y6.below hb7
  have y0 := Y7.cell0
  have y1 := Y7.cell1
  clear x0 x1 u0 u1 X6 Z6 S6 R6 V3 V5 K6 Y6 hb7
  go_wp2_with fail
  refine (HBI.out w7 K7).mono ?_
  rintro e w8 ⟨rfl, hb8⟩
  have K8 := bt K7 hb8
  have Y8 := Y7.below hb8
  have y0 := Y8.cell0
  have y1 := Y8.cell1
  clear K7 Y7 hb8
  go_wp2_with fail
  refine (HP2.out w8 K8).1.mono ?_
  rintro e w9 ⟨n9, A9, c9, l9, rfl, hwb, hBb, hzb, hlb, hb⟩
  have V9 := Lib.hid (And.intro hwb (And.intro hBb (And.intro hzb hlb)))
  have K9 := bt K8 hb
  have Y9 := Y8.below hb
  clear hwb hBb hzb hlb hb K8 Y8 y0 y1
  go_upto_region 11 with fail
  obtain ⟨w10, hw⟩ : ∃ W, W = w9.alloc (.cells #[.bool n9, .slice A9 l9.length c9] 24) := ⟨_, rfl⟩
  have X10 : Box2 w10 w9.heap.size (.bool n9) (.slice A9 l9.length c9) := by rw [hw]; exact Box2.new _ _ _
  have hb : Below w9.heap.size w9 w10 := by rw [hw]; exact ba (b0 _) _
  rw [← hw]
  clear hw
  have K10 := bt K9 hb
  have Y10 := Y9.below hb
  have S10 := Lib.hid (V9.out.1.below hb)
  have y0 := Y10.cell0
  have y1 := Y10.cell1
  clear K9 Y9 hb
  go_wp2_with fail
  refine (HP2.out w10 K10).2.mono ?_
  rintro e w11 ⟨n11, A11, c11, l11, rfl, hwb, hBb, hzb, hlb, hb⟩
  have V11 := Lib.hid (And.intro hwb (And.intro hBb (And.intro hzb hlb)))
  have K11 := bt K10 hb
  have Y11 := Y10.below hb
  have X11 := X10.below hb
  have S11 := Lib.hid (S10.out.below hb)
  clear hwb hBb hzb hlb hb K10 Y10 X10 S10 y0 y1
  go_upto_region 12 with fail
  obtain ⟨w12, hw⟩ : ∃ W, W = w11.alloc (.cells #[.bool n11, .slice A11 l11.length c11] 24) := ⟨_, rfl⟩
  have Z12 : Box2 w12 w11.heap.size (.bool n11) (.slice A11 l11.length c11) := by rw [hw]; exact Box2.new _ _ _
  have hb : Below w11.heap.size w11 w12 := by rw [hw]; exact ba (b0 _) _
  rw [← hw]
  clear hw
  have K12 := bt K11 hb
  have Y12 := Y11.below hb
  have X12 := X11.below hb
  have S12 := Lib.hid (S11.out.below hb)
  have R12 := Lib.hid (V11.out.1.below hb)
  clear K11 Y11 X11 S11 hb
  have x0 := X12.cell0
  have x1 := X12.cell1
  have u0 := Z12.cell0
  have u1 := Z12.cell1
  have HX := Lib.hid X12
  have HZ := Lib.hid Z12
  have HK := Lib.hid K12
  clear K12 Y12 X12 Z12
  go_wp2_with fail
  refine (sane_any w12 (HTn.out.below HK.out)).mono ?_
  rintro e w13 ⟨rfl, hb13⟩
  have hX := HX.out.below hb13
  have hZ := HZ.out.below hb13
  clear x0 x1 u0 u1
  have x0 := hX.cell0
  have x1 := hX.cell1
  have u0 := hZ.cell0
  have u1 := hZ.cell1
  go_wp2_with fail
  refine (same_of (S12.out.below hb13) (R12.out.below hb13) V9.out.2.1 V11.out.2.1 V9.out.2.2.1 V11.out.2.2.1 (by have := V9.out.2.2.2; omega) (by have := V11.out.2.2.2; omega)).mono ?_
  rintro e w14 ⟨rfl, hb14⟩
  go_wp2_with fail
  go_ret
  exact ⟨rfl, bt (bt HK.out hb13) hb14⟩

set_option maxRecDepth 100000 in
set_option maxHeartbeats 8000000 in
theorem NumPowers_B3 (w : World) (na : Bool) (A : Option Addr) (ca : Nat) (l : List Nat) (n : Int) (m : Nat) (hl : WS w A l) (hca : l.length ≤ ca) (hx : l.length ≤ 40) (hn : n < 9223372036854775808) (hmb : m ≤ 1280)
    (HBI : Hid (∀ W, Below w.heap.size w W → Calls Tryz.prog 29 #[.agg #[.bool na, .slice A l.length ca]] W fun e w' => e = .returned (.int .i64 (m : Int)) ∧ Below W.heap.size W w'))
    (hk : isB na l = true → 1 < bl l → 0 ≤ n → n ≤ (5000 / bl l : Nat) ∨ (1048576 / bl l : Nat) < n) (h1 : 1 < m) (h5 : ((5000 / m : Nat) : Int) < n) (h20 : ¬ n ≤ ((1048576 / m : Nat) : Int)) (hT : Tens w) :
    Calls Tryz.prog 4 #[.agg #[.bool na, .slice A l.length ca], .int .i64 n] w fun e w' => e = .returned (.bool true) ∧ Below w.heap.size w w' := by
  have HTn := Lib.hid hT
  have hsh := fun W => short_wide 40 na na na A A A l.length l.length l.length ca ca ca W (by omega) true (by simp [hx])
  have HSH := Lib.hid hsh
  obtain ⟨z, er, hP⟩ := sqrts_both w na A ca l hx hca hl
  have HP := Lib.hid hP
  obtain ⟨z2, er2, hP2⟩ := pows_both w na A ca l n hx hca hl hn hk
  have HP2 := Lib.hid hP2
  clear hP2 hk
  have hbi : (1 : Int) < (m : Int) := by omega
  have hm0 : ((m : Int) == 0) = false := beq_eq_false_iff_ne.2 (by omega)
  obtain ⟨d5, hd5⟩ : ∃ d, d = 5000 / m := ⟨_, rfl⟩
  obtain ⟨d20, hd20⟩ : ∃ d, d = 1048576 / m := ⟨_, rfl⟩
  have hdl5 : d5 ≤ 5000 := by rw [hd5]; exact Nat.div_le_self _ _
  have hdl20 : d20 ≤ 1048576 := by rw [hd20]; exact Nat.div_le_self _ _
  have hdiv5 : (5000 : Int).tdiv (m : Int) = (d5 : Int) := by rw [Int.tdiv_eq_ediv_of_nonneg (by omega), hd5]; simp
  have hdiv20 : (1048576 : Int).tdiv (m : Int) = (d20 : Int) := by rw [Int.tdiv_eq_ediv_of_nonneg (by omega), hd20]; simp
  have h5i : (d5 : Int) < n := by rw [hd5]; exact h5
  have h20i : ¬ n ≤ (d20 : Int) := by rw [hd20]; exact h20
  clear h1 h5 h20 hd5 hd20
  clear hT hsh hP hl hx hn hca
  go_enter Tryz.func4, Tryz.ntmps4
  go_wp2_with fail
  obtain ⟨W1, hW1⟩ : ∃ W, W = w.alloc (bx na A l.length ca) := ⟨_, rfl⟩
  have Y0 : Box2 W1 w.heap.size (.bool na) (.slice A l.length ca) := by rw [hW1]; exact Box2.new w _ _
  have K1 : Below w.heap.size w W1 := by rw [hW1]; exact ba (b0 _) _
  change Calls _ _ _ (w.alloc (bx na A l.length ca)) _
  rw [← hW1]
  clear hW1
  refine (HSH.out W1).mono ?_
  rintro e w2 ⟨rfl, hb2⟩
  have K2 : Below w.heap.size w w2 := bt K1 hb2
  have Y2 := Y0.below hb2
  have y0 := Y2.cell0
  have y1 := Y2.cell1
  clear Y0 K1 hb2 HSH
  go_wp2_with fail
  refine (HP.out w2 K2).1.mono ?_
  rintro e w3 ⟨n3, A3, c3, l3, rfl, hwb, hBb, hzb, hlb, hb⟩
  have V3 := Lib.hid (And.intro hwb (And.intro hBb (And.intro hzb hlb)))
  have K3 := bt K2 hb
  have Y3 := Y2.below hb
  clear hwb hBb hzb hlb hb K2 Y2 y0 y1
  go_upto_region 4 with fail
  obtain ⟨w4, hw⟩ : ∃ W, W = w3.alloc (.cells #[.bool n3, .slice A3 l3.length c3] 24) := ⟨_, rfl⟩
  have X4 : Box2 w4 w3.heap.size (.bool n3) (.slice A3 l3.length c3) := by rw [hw]; exact Box2.new _ _ _
  have hb : Below w3.heap.size w3 w4 := by rw [hw]; exact ba (b0 _) _
  rw [← hw]
  clear hw
  have K4 := bt K3 hb
  have Y4 := Y3.below hb
  have S4 := Lib.hid (V3.out.1.below hb)
  have y0 := Y4.cell0
  have y1 := Y4.cell1
  clear K3 Y3 hb
  go_wp2_with fail
  refine (HP.out w4 K4).2.mono ?_
  rintro e w5 ⟨n5, A5, c5, l5, rfl, hwb, hBb, hzb, hlb, hb⟩
  have V5 := Lib.hid (And.intro hwb (And.intro hBb (And.intro hzb hlb)))
  have K5 := bt K4 hb
  have Y5 := Y4.below hb
  have X5 := X4.below hb
  have S5 := Lib.hid (S4.out.below hb)
  clear hwb hBb hzb hlb hb K4 Y4 X4 S4 y0 y1
  go_upto_region 5 with fail
  obtain ⟨w6, hw⟩ : ∃ W, W = w5.alloc (.cells #[.bool n5, .slice A5 l5.length c5] 24) := ⟨_, rfl⟩
  have Z6 : Box2 w6 w5.heap.size (.bool n5) (.slice A5 l5.length c5) := by rw [hw]; exact Box2.new _ _ _
  have hb : Below w5.heap.size w5 w6 := by rw [hw]; exact ba (b0 _) _
  rw [← hw]
  clear hw
  have K6 := bt K5 hb
  have Y6 := Y5.below hb
  have X6 := X5.below hb
  have S6 := Lib.hid (S5.out.below hb)
  have R6 := Lib.hid (V5.out.1.below hb)
  clear K5 Y5 X5 S5 hb
  have x0 := X6.cell0
  have x1 := X6.cell1
  have u0 := Z6.cell0
  have u1 := Z6.cell1
  go_wp2_with fail
  refine (same_of S6.out R6.out V3.out.2.1 V5.out.2.1 V3.out.2.2.1 V5.out.2.2.1 (by have := V3.out.2.2.2; omega) (by have := V5.out.2.2.2; omega)).mono ?_
  rintro e w7 ⟨rfl, hb7⟩
  have K7 := bt K6 hb7
  have Y7 := Y6.below hb7
  have y0 := Y7.cell0
  have y1 := Y7.cell1
  clear x0 x1 u0 u1 X6 Z6 S6 R6 V3 V5 K6 Y6 hb7
  go_wp2_with fail
  refine (HBI.out w7 K7).mono ?_
  rintro e w8 ⟨rfl, hb8⟩
  have K8 := bt K7 hb8
  have Y8 := Y7.below hb8
  have y0 := Y8.cell0
  have y1 := Y8.cell1
  clear K7 Y7 hb8
  go_wp2_with fail
  refine (HP2.out w8 K8).1.mono ?_
  rintro e w9 ⟨n9, A9, c9, l9, rfl, hwb, hBb, hzb, hlb, hb⟩
  have V9 := Lib.hid (And.intro hwb (And.intro hBb (And.intro hzb hlb)))
  have K9 := bt K8 hb
  have Y9 := Y8.below hb
  clear hwb hBb hzb hlb hb K8 Y8 y0 y1
  go_upto_region 11 with fail
  obtain ⟨w10, hw⟩ : ∃ W, W = w9.alloc (.cells #[.bool n9, .slice A9 l9.length c9] 24) := ⟨_, rfl⟩
  have X10 : Box2 w10 w9.heap.size (.bool n9) (.slice A9 l9.length c9) := by rw [hw]; exact Box2.new _ _ _
  have hb : Below w9.heap.size w9 w10 := by rw [hw]; exact ba (b0 _) _
  rw [← hw]
  clear hw
  have K10 := bt K9 hb
  have Y10 := Y9.below hb
  have S10 := Lib.hid (V9.out.1.below hb)
  have y0 := Y10.cell0
  have y1 := Y10.cell1
  clear K9 Y9 hb
  go_wp2_with fail
  refine (HP2.out w10 K10).2.mono ?_
  rintro e w11 ⟨n11, A11, c11, l11, rfl, hwb, hBb, hzb, hlb, hb⟩
  have V11 := Lib.hid (And.intro hwb (And.intro hBb (And.intro hzb hlb)))
  have K11 := bt K10 hb
  have Y11 := Y10.below hb
  have X11 := X10.below hb
  have S11 := Lib.hid (S10.out.below hb)
  clear hwb hBb hzb hlb hb K10 Y10 X10 S10 y0 y1
  go_upto_region 12 with fail
  obtain ⟨w12, hw⟩ : ∃ W, W = w11.alloc (.cells #[.bool n11, .slice A11 l11.length c11] 24) := ⟨_, rfl⟩
  have Z12 : Box2 w12 w11.heap.size (.bool n11) (.slice A11 l11.length c11) := by rw [hw]; exact Box2.new _ _ _
  have hb : Below w11.heap.size w11 w12 := by rw [hw]; exact ba (b0 _) _
  rw [← hw]
  clear hw
  have K12 := bt K11 hb
  have Y12 := Y11.below hb
  have X12 := X11.below hb
  have S12 := Lib.hid (S11.out.below hb)
  have R12 := Lib.hid (V11.out.1.below hb)
  clear K11 Y11 X11 S11 hb
  have x0 := X12.cell0
  have x1 := X12.cell1
  have u0 := Z12.cell0
  have u1 := Z12.cell1
  have HX := Lib.hid X12
  have HZ := Lib.hid Z12
  have HK := Lib.hid K12
  clear K12 Y12 X12 Z12
  go_wp2_with fail
  refine (sane_any w12 (HTn.out.below HK.out)).mono ?_
  rintro e w13 ⟨rfl, hb13⟩
  have hX := HX.out.below hb13
  have hZ := HZ.out.below hb13
  clear x0 x1 u0 u1
  have x0 := hX.cell0
  have x1 := hX.cell1
  have u0 := hZ.cell0
  have u1 := hZ.cell1
  go_wp2_with fail
  refine (same_of (S12.out.below hb13) (R12.out.below hb13) V9.out.2.1 V11.out.2.1 V9.out.2.2.1 V11.out.2.2.1 (by have := V9.out.2.2.2; omega) (by have := V11.out.2.2.2; omega)).mono ?_
  rintro e w14 ⟨rfl, hb14⟩
  go_wp2_with fail
  go_ret
  exact ⟨rfl, bt (bt HK.out hb13) hb14⟩

theorem NumPowers_walk (w : World) (na : Bool) (A : Option Addr) (ca : Nat) (l : List Nat) (n : Int) (hl : WS w A l) (hca : l.length ≤ ca) (hn : n < 9223372036854775808) (hT : Tens w) :
    Calls Tryz.prog 4 #[.agg #[.bool na, .slice A l.length ca], .int .i64 n] w fun e w' => e = .returned (.bool true) ∧ Below w.heap.size w w' := by
  by_cases hx : l.length ≤ 40
  · obtain ⟨m, hme⟩ : ∃ m : Nat, m = if isB na l = true then bl l else 0 := ⟨_, rfl⟩
    have hbl : bl l ≤ 1280 := by
      rcases Nat.eq_zero_or_pos l.length with h | h
      · unfold bl; rw [if_pos h]; omega
      · have h1 := Lib.bitLen_le (gd l (l.length - 1)) 32 (by omega) (getD_lt hl.1 (l.length - 1))
        unfold bl
        rw [if_neg (by omega)]
        omega
    have hmb : m ≤ 1280 := by rw [hme]; split <;> omega
    have HBI : Hid (∀ W, Below w.heap.size w W → Calls Tryz.prog 29 #[.agg #[.bool na, .slice A l.length ca]] W fun e w' => e = .returned (.int .i64 (m : Int)) ∧ Below W.heap.size W w') := Lib.hid (fun W hW => by
      have r := RBits_any na A l.length ca l (isB na l) W rfl (by omega) (hl.below hW) rfl
      have e : (if isB na l = true then (bl l : Int) else 0) = (m : Int) := by rw [hme]; split <;> rfl
      rw [e] at r
      exact r)
    have hme2 : isB na l = true → m = bl l := fun h => by rw [hme, if_pos h]
    by_cases h1 : 1 < m
    · by_cases h5 : ((5000 / m : Nat) : Int) < n
      · by_cases h20 : n ≤ ((1048576 / m : Nat) : Int)
        · exact NumPowers_A w na A ca l n m hl hca hx hn hmb HBI h1 h5 h20 hT
        · exact NumPowers_B3 w na A ca l n m hl hca hx hn hmb HBI (fun h _ _ => .inr (by rw [← hme2 h]; omega)) h1 h5 h20 hT
      · exact NumPowers_B2 w na A ca l n m hl hca hx hn hmb HBI (fun h _ _ => .inl (by rw [← hme2 h]; omega)) h1 h5 hT
    · exact NumPowers_B1 w na A ca l n m hl hca hx hn hmb HBI (fun h h2 _ => absurd (by rw [hme2 h]; exact h2) h1) h1 hT
  · exact NumPowers_long w na A _ ca n hx hT
end Go.Proofs.YtlloilbinobljaaGreatDoor
