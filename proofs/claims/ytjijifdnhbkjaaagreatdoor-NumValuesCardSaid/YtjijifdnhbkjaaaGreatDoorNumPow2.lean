/- Pow, of small results. -/
import Derived.Test.YtjijifdnhbkjaaaGreatDoorNumPow
import Derived.Test.YtjijifdnhbkjaaaGreatDoorNumInt
import Derived.Test.YtjijifdnhbkjaaaGreatDoorNumBez
namespace Go.Proofs.YtjijifdnhbkjaaaGreatDoor
open Go.RowKit

theorem zI_pow (neg : Bool) (l k : List Nat) (n : Nat) (h : val k = val l ^ n) : zI (neg && decide (n % 2 = 1)) k = zI neg l ^ n := by
  have hs : ∀ m : Nat, ((-(val l : Int)) ^ m) = if m % 2 = 1 then -((val l : Int) ^ m) else (val l : Int) ^ m := by
    intro m
    induction m with
    | zero => simp
    | succ m ih =>
      rw [Int.pow_succ, ih, Int.pow_succ]
      rcases Nat.mod_two_eq_zero_or_one m with hm | hm
      · rw [if_neg (by omega), if_pos (by omega), Int.mul_neg]
      · rw [if_pos hm, if_neg (by omega), Int.neg_mul_neg]
  unfold zI
  cases neg
  · simp [h]
  · simp only [Bool.true_and, decide_eq_true_eq, if_true]
    rw [hs n, h]
    simp

set_option maxRecDepth 100000 in
set_option maxHeartbeats 400000 in
theorem Pow_small (a w : World) (neg : Bool) (A : Option Addr) (c : Nat) (l : List Nat) (n : Nat) (hl2 : l.length ≤ 24) (hn : n < 4294967296) (h0 : 0 < val l) (hfit : val l ^ n < BB 24) (hB : isB neg l = true) (hlim : ¬ (1 < bl l ∧ 1048576 / bl l < n)) (hl : WS w A l) (hw : Below a.heap.size a w) :
    Calls Tryz.prog 39 #[.agg #[.bool neg, .slice A l.length c], .int .i64 (n : Int)] w fun e w' => ∃ n1 A1 c1 l1, e = .returned (.tuple #[.agg #[.bool n1, .slice A1 l1.length c1], .int .i64 0]) ∧ IP a w' n1 A1 c1 l1 (zI neg l ^ n) ∧ Below a.heap.size a w' := by
  have HB := Lib.hid hB
  have HF := Lib.hid hfit
  have hz := fun l1 h => zI_pow neg l l1 n h
  have HZ := Lib.hid hz
  clear hB hfit hz
  have hmod : (n : Int).tmod 2 = ((n % 2 : Nat) : Int) := by rw [Int.tmod_eq_emod_of_nonneg (by omega)]; simp
  have hnn : ¬ (n : Int) < 0 := by omega
  have hdec : ((((n % 2 : Nat) : Int) == 1) : Bool) = decide (n % 2 = 1) := by rcases Nat.mod_two_eq_zero_or_one n with h | h <;> rw [h] <;> rfl
  go_enter Tryz.func39, Tryz.ntmps39
  go_wp2_with fail
  refine (Is_any neg A _ c l _ rfl (by omega) (hl.below (ba (ba (b0 _) _) _))).mono ?_
  rintro e w1 ⟨rfl, hb⟩
  rw [HB.out]
  have hbx := (Box2.new (w.alloc (.cells #[.bool neg, .slice A l.length c] 24)) (.bool false) (.slice none 0 0)).below hb
  rw [World.size_alloc] at hbx
  have hby := ((Box2.new w (.bool neg) (.slice A l.length c)).alloc (.cells #[.bool false, .slice none 0 0] 24)).below hb
  have y0 := hby.cell0
  have y1 := hby.cell1
  have hl1 : WS w1 A l := hl.below (bt (ba (ba (b0 _) _) _) hb)
  go_wp2_with fail
  refine (bitLen_any A _ c l _ rfl (by omega) hl1).mono ?_
  rintro e w2 ⟨rfl, rfl⟩
  obtain ⟨m, hm⟩ : ∃ m, m = bl l := ⟨_, rfl⟩
  rw [← hm] at hlim ⊢
  clear hm hdec hnn
  have hnn : ¬ (n : Int) < 0 := by omega
  by_cases hb1 : 1 < m
  · have hbi : (1 : Int) < (m : Int) := by omega
    have hm0 : ((m : Int) == 0) = false := beq_eq_false_iff_ne.2 (by omega)
    have hdiv : (1048576 : Int).tdiv (m : Int) = ((1048576 / m : Nat) : Int) := by rw [Int.tdiv_eq_ediv_of_nonneg (by omega)]; simp
    have hdle : 1048576 / m ≤ 1048576 := Nat.div_le_self _ _
    have hng : ¬ ((1048576 / m : Nat) : Int) < (n : Int) := by
      have h : ¬ 1048576 / m < n := fun h => hlim ⟨hb1, h⟩
      omega
    obtain ⟨d, hd⟩ : ∃ d, d = 1048576 / m := ⟨_, rfl⟩
    rw [← hd] at hdiv hdle hng
    clear hd hlim hb1
    cases neg
    · go_wp2_with fail
      refine (power_small _ A c l n hl2 hn h0 HF.out (isB_top HB.out) hl1).mono ?_
      rintro e w3 ⟨A3, c3, l3, rfl, hc3, ho3, ht3, hv3, hb3⟩
      have hl3 : l3.length ≤ 24 := top_len ht3 (by rw [hv3]; exact HF.out)
      have HV3 := Lib.hid hv3
      clear hv3
      go_wp2_with fail
      refine (signed_ip w1 w3 false A3 c3 l3 (by omega) hc3 ho3 ht3).mono ?_
      rintro e w4 ⟨⟨n4, A4, c4, l4, rfl, hi4, hl4⟩, hb4⟩
      have hbx4 := (hbx.below hb3).below hb4
      have x0 := hbx4.cell0
      have x1 := hbx4.cell1
      have f0 := hbx4.free 0
      have f1 := hbx4.free 1
      obtain ⟨k0, k1, k2⟩ := hbx4.back (.bool n4) (.slice A4 l4.length c4)
      go_wp2_with fail
      refine bodyPost_ret (v := .tuple #[.agg #[.bool n4, .slice A4 l4.length c4], .int .i64 0]) (by simp [results, Tryz.results39, go_sem, k0, k2]) rfl ?_
      have hs := hw.size
      have hsb := hb.size
      rw [World.size_alloc, World.size_alloc] at hsb
      have h5 := (hi4.two (p := w.heap.size + 1) (by omega) (.bool n4) (.slice A4 l4.length c4)).mono (a := a) (by omega)
      have hz := HZ.out l3 HV3.out
      rw [Bool.false_and] at hz
      refine ⟨n4, A4, c4, l4, rfl, ?_, b2 (bt (bt (bt hw (bt (ba (ba (b0 _) _) _) hb)) hb3) hb4) (by omega) _ _⟩
      rw [← hz]
      exact h5
    · rcases Nat.mod_two_eq_zero_or_one n with hq2 | hq2
      · rw [hq2] at hmod
        have HQ2 := Lib.hid hq2
        clear hq2
        go_wp2_with fail
        refine (power_small _ A c l n hl2 hn h0 HF.out (isB_top HB.out) hl1).mono ?_
        rintro e w3 ⟨A3, c3, l3, rfl, hc3, ho3, ht3, hv3, hb3⟩
        have hl3 : l3.length ≤ 24 := top_len ht3 (by rw [hv3]; exact HF.out)
        have HV3 := Lib.hid hv3
        clear hv3
        go_wp2_with fail
        refine (signed_ip w1 w3 false A3 c3 l3 (by omega) hc3 ho3 ht3).mono ?_
        rintro e w4 ⟨⟨n4, A4, c4, l4, rfl, hi4, hl4⟩, hb4⟩
        have hbx4 := (hbx.below hb3).below hb4
        have x0 := hbx4.cell0
        have x1 := hbx4.cell1
        have f0 := hbx4.free 0
        have f1 := hbx4.free 1
        obtain ⟨k0, k1, k2⟩ := hbx4.back (.bool n4) (.slice A4 l4.length c4)
        go_wp2_with fail
        refine bodyPost_ret (v := .tuple #[.agg #[.bool n4, .slice A4 l4.length c4], .int .i64 0]) (by simp [results, Tryz.results39, go_sem, k0, k2]) rfl ?_
        have hs := hw.size
        have hsb := hb.size
        rw [World.size_alloc, World.size_alloc] at hsb
        have h5 := (hi4.two (p := w.heap.size + 1) (by omega) (.bool n4) (.slice A4 l4.length c4)).mono (a := a) (by omega)
        have hz := HZ.out l3 HV3.out
        rw [HQ2.out, show (true && decide (0 = 1)) = false from rfl] at hz
        refine ⟨n4, A4, c4, l4, rfl, ?_, b2 (bt (bt (bt hw (bt (ba (ba (b0 _) _) _) hb)) hb3) hb4) (by omega) _ _⟩
        rw [← hz]
        exact h5
      · rw [hq2] at hmod
        have HQ2 := Lib.hid hq2
        clear hq2
        go_wp2_with fail
        refine (power_small _ A c l n hl2 hn h0 HF.out (isB_top HB.out) hl1).mono ?_
        rintro e w3 ⟨A3, c3, l3, rfl, hc3, ho3, ht3, hv3, hb3⟩
        have hl3 : l3.length ≤ 24 := top_len ht3 (by rw [hv3]; exact HF.out)
        have HV3 := Lib.hid hv3
        clear hv3
        go_wp2_with fail
        refine (signed_ip w1 w3 true A3 c3 l3 (by omega) hc3 ho3 ht3).mono ?_
        rintro e w4 ⟨⟨n4, A4, c4, l4, rfl, hi4, hl4⟩, hb4⟩
        have hbx4 := (hbx.below hb3).below hb4
        have x0 := hbx4.cell0
        have x1 := hbx4.cell1
        have f0 := hbx4.free 0
        have f1 := hbx4.free 1
        obtain ⟨k0, k1, k2⟩ := hbx4.back (.bool n4) (.slice A4 l4.length c4)
        go_wp2_with fail
        refine bodyPost_ret (v := .tuple #[.agg #[.bool n4, .slice A4 l4.length c4], .int .i64 0]) (by simp [results, Tryz.results39, go_sem, k0, k2]) rfl ?_
        have hs := hw.size
        have hsb := hb.size
        rw [World.size_alloc, World.size_alloc] at hsb
        have h5 := (hi4.two (p := w.heap.size + 1) (by omega) (.bool n4) (.slice A4 l4.length c4)).mono (a := a) (by omega)
        have hz := HZ.out l3 HV3.out
        rw [HQ2.out, show (true && decide (1 = 1)) = true from rfl] at hz
        refine ⟨n4, A4, c4, l4, rfl, ?_, b2 (bt (bt (bt hw (bt (ba (ba (b0 _) _) _) hb)) hb3) hb4) (by omega) _ _⟩
        rw [← hz]
        exact h5
  · have hbi : ¬ (1 : Int) < (m : Int) := by omega
    clear hlim hb1
    cases neg
    · go_wp2_with fail
      refine (power_small _ A c l n hl2 hn h0 HF.out (isB_top HB.out) hl1).mono ?_
      rintro e w3 ⟨A3, c3, l3, rfl, hc3, ho3, ht3, hv3, hb3⟩
      have hl3 : l3.length ≤ 24 := top_len ht3 (by rw [hv3]; exact HF.out)
      have HV3 := Lib.hid hv3
      clear hv3
      go_wp2_with fail
      refine (signed_ip w1 w3 false A3 c3 l3 (by omega) hc3 ho3 ht3).mono ?_
      rintro e w4 ⟨⟨n4, A4, c4, l4, rfl, hi4, hl4⟩, hb4⟩
      have hbx4 := (hbx.below hb3).below hb4
      have x0 := hbx4.cell0
      have x1 := hbx4.cell1
      have f0 := hbx4.free 0
      have f1 := hbx4.free 1
      obtain ⟨k0, k1, k2⟩ := hbx4.back (.bool n4) (.slice A4 l4.length c4)
      go_wp2_with fail
      refine bodyPost_ret (v := .tuple #[.agg #[.bool n4, .slice A4 l4.length c4], .int .i64 0]) (by simp [results, Tryz.results39, go_sem, k0, k2]) rfl ?_
      have hs := hw.size
      have hsb := hb.size
      rw [World.size_alloc, World.size_alloc] at hsb
      have h5 := (hi4.two (p := w.heap.size + 1) (by omega) (.bool n4) (.slice A4 l4.length c4)).mono (a := a) (by omega)
      have hz := HZ.out l3 HV3.out
      rw [Bool.false_and] at hz
      refine ⟨n4, A4, c4, l4, rfl, ?_, b2 (bt (bt (bt hw (bt (ba (ba (b0 _) _) _) hb)) hb3) hb4) (by omega) _ _⟩
      rw [← hz]
      exact h5
    · rcases Nat.mod_two_eq_zero_or_one n with hq2 | hq2
      · rw [hq2] at hmod
        have HQ2 := Lib.hid hq2
        clear hq2
        go_wp2_with fail
        refine (power_small _ A c l n hl2 hn h0 HF.out (isB_top HB.out) hl1).mono ?_
        rintro e w3 ⟨A3, c3, l3, rfl, hc3, ho3, ht3, hv3, hb3⟩
        have hl3 : l3.length ≤ 24 := top_len ht3 (by rw [hv3]; exact HF.out)
        have HV3 := Lib.hid hv3
        clear hv3
        go_wp2_with fail
        refine (signed_ip w1 w3 false A3 c3 l3 (by omega) hc3 ho3 ht3).mono ?_
        rintro e w4 ⟨⟨n4, A4, c4, l4, rfl, hi4, hl4⟩, hb4⟩
        have hbx4 := (hbx.below hb3).below hb4
        have x0 := hbx4.cell0
        have x1 := hbx4.cell1
        have f0 := hbx4.free 0
        have f1 := hbx4.free 1
        obtain ⟨k0, k1, k2⟩ := hbx4.back (.bool n4) (.slice A4 l4.length c4)
        go_wp2_with fail
        refine bodyPost_ret (v := .tuple #[.agg #[.bool n4, .slice A4 l4.length c4], .int .i64 0]) (by simp [results, Tryz.results39, go_sem, k0, k2]) rfl ?_
        have hs := hw.size
        have hsb := hb.size
        rw [World.size_alloc, World.size_alloc] at hsb
        have h5 := (hi4.two (p := w.heap.size + 1) (by omega) (.bool n4) (.slice A4 l4.length c4)).mono (a := a) (by omega)
        have hz := HZ.out l3 HV3.out
        rw [HQ2.out, show (true && decide (0 = 1)) = false from rfl] at hz
        refine ⟨n4, A4, c4, l4, rfl, ?_, b2 (bt (bt (bt hw (bt (ba (ba (b0 _) _) _) hb)) hb3) hb4) (by omega) _ _⟩
        rw [← hz]
        exact h5
      · rw [hq2] at hmod
        have HQ2 := Lib.hid hq2
        clear hq2
        go_wp2_with fail
        refine (power_small _ A c l n hl2 hn h0 HF.out (isB_top HB.out) hl1).mono ?_
        rintro e w3 ⟨A3, c3, l3, rfl, hc3, ho3, ht3, hv3, hb3⟩
        have hl3 : l3.length ≤ 24 := top_len ht3 (by rw [hv3]; exact HF.out)
        have HV3 := Lib.hid hv3
        clear hv3
        go_wp2_with fail
        refine (signed_ip w1 w3 true A3 c3 l3 (by omega) hc3 ho3 ht3).mono ?_
        rintro e w4 ⟨⟨n4, A4, c4, l4, rfl, hi4, hl4⟩, hb4⟩
        have hbx4 := (hbx.below hb3).below hb4
        have x0 := hbx4.cell0
        have x1 := hbx4.cell1
        have f0 := hbx4.free 0
        have f1 := hbx4.free 1
        obtain ⟨k0, k1, k2⟩ := hbx4.back (.bool n4) (.slice A4 l4.length c4)
        go_wp2_with fail
        refine bodyPost_ret (v := .tuple #[.agg #[.bool n4, .slice A4 l4.length c4], .int .i64 0]) (by simp [results, Tryz.results39, go_sem, k0, k2]) rfl ?_
        have hs := hw.size
        have hsb := hb.size
        rw [World.size_alloc, World.size_alloc] at hsb
        have h5 := (hi4.two (p := w.heap.size + 1) (by omega) (.bool n4) (.slice A4 l4.length c4)).mono (a := a) (by omega)
        have hz := HZ.out l3 HV3.out
        rw [HQ2.out, show (true && decide (1 = 1)) = true from rfl] at hz
        refine ⟨n4, A4, c4, l4, rfl, ?_, b2 (bt (bt (bt hw (bt (ba (ba (b0 _) _) _) hb)) hb3) hb4) (by omega) _ _⟩
        rw [← hz]
        exact h5
end Go.Proofs.YtjijifdnhbkjaaaGreatDoor
