import Derived.Test.YtgljdfblgpdaaaaGreatDoorPbNumBezI
set_option linter.unusedSimpArgs false
set_option linter.unusedVariables false
set_option maxRecDepth 100000
set_option maxHeartbeats 4000000
namespace Go.Proofs.YtgljdfblgpdaaaaGreatDoor
open Go.RowKit
theorem power_gen (w : World) (A : Option Addr) (c : Nat) (l : List Nat) (n : Nat) (M : Nat) (hM : M ≤ 100000) (hl2 : l.length ≤ M) (hlc : l.length ≤ c) (hn : n < 9223372036854775808) (hfit : ∀ m, m ≤ n → val l ^ m < BB M) (tl : Top l) (hl : WS w A l) :
  Calls Tryz.prog 127 #[.slice A l.length c, .int .i64 (n : Int)] w (Res w (val l ^ n)) := by
 go_enter Tryz.func127, Tryz.ntmps127
 go_wp2_with fail
 refine (Tryz.bits_Len (n : Int) _ (by omega) (by omega)).mono ?_
 rintro e w1 ⟨rfl, rfl⟩
 rw [Int.toNat_natCast]
 have hb64 : Lib.bitLen n ≤ 64 := by unfold Lib.bitLen; exact bitLen_le 64 n
 have hone : Blk (w.alloc (.cells #[.int .u32 1] 83)) w.heap.size [1] := Blk.new w [1] (by simp)
 obtain ⟨W1, hW1⟩ : ∃ W, W = w.alloc (.cells #[.int .u32 1] 83) := ⟨_, rfl⟩
 have hw1 : Below w.heap.size w W1 := by rw [hW1]; exact ba (b0 _) _
 rw [← hW1] at hone ⊢
 clear hW1
 have hlt := hl.lt
 have HF := Hi hfit
 have HBL := Hi (bitLen_spec n (by omega))
 clear hfit
 go_wp2_with fail
 go_loopw [5, 6] (fun ov iv wr => ∃ (j : Nat) (A1 : Option Addr) (c1 : Nat) (l1 : List Nat), ov = .slice A1 l1.length c1 ∧ iv = .int .i64 ((j : Int) - 1) ∧ l1.length ≤ c1 ∧ OwnS w wr A1 l1 ∧ Top l1 ∧ Hid (val l1 = val l ^ (n / 2 ^ j)) ∧ j ≤ 64 ∧ Below w.heap.size w wr) (fun _ iv _ => (intOf iv + 1).toNat)
 case atStart => exact ⟨Lib.bitLen n, some ⟨w.heap.size, 0, none⟩, 1, [1], rfl, by go_num, Nat.le_refl _, own_of_blk (Nat.le_refl _) hone, fun _ => by simp [gd], by show _ = _; rw [Nat.div_eq_of_lt HBL.out]; simp [val], hb64, hw1⟩
 case round =>
  obtain ⟨j, A1, c1, l1, rfl, rfl, hc1, ho1, ht1, hv1, hj, hb1⟩ := hrel
  rcases Nat.eq_zero_or_pos j with rfl | hj0
  ·go_wp2_with fail
   go_ret
   exact ⟨A1, c1, l1, rfl, hc1, ho1, ht1, by rw [hv1.out]; simp, hb1⟩
  ·obtain ⟨i, rfl⟩ : ∃ i, j = i + 1 := ⟨j - 1, by omega⟩
   have hi0 : (0 : Int) ≤ (i : Int) := by omega
   have hdm : n / 2 ^ i = 2 * (n / 2 ^ (i + 1)) + (n / 2 ^ i) % 2 := by
    have e := Nat.div_add_mod (n / 2 ^ i) 2
    rw [show n / 2 ^ (i + 1) = n / 2 ^ i / 2 from by rw [Nat.div_div_eq_div_mul, ← Nat.pow_succ]]
    omega
   have hle1 : n / 2 ^ i ≤ n := Nat.div_le_self _ _
   have hl1 : l1.length ≤ M := top_len ht1 (by rw [hv1.out]; exact HF.out _ (by omega))
   have HP := HF
   have HD := Hi hdm
   clear hdm
   go_wp2_with fail
   refine (product_all w wr A1 A1 l1.length c1 l1.length c1 l1 l1 rfl rfl (by omega) hc1 hc1 ho1.ws ho1.ws hb1).mono ?_
   rintro e w2 ⟨A2, c2, l2, rfl, hc2, ho2, ht2, hv2, hb2⟩
   have hv2' : val l2 = val l ^ (2 * (n / 2 ^ (i + 1))) := by rw [hv2, hv1.out, ← Nat.pow_add]; congr 1; omega
   have HV2 := Hi hv2'
   have hl2' : l2.length ≤ M := top_len ht2 (by rw [hv2']; exact HP.out _ (by have := HD.out; omega))
   clear hv2 hv2'
   obtain ⟨q, hq⟩ : ∃ q, q = n / 2 ^ i := ⟨_, rfl⟩
   rw [← hq] at HD hle1
   have hand := and1_div n i q hq
   have HQ := Hi hq
   clear hq
   rcases Nat.mod_two_eq_zero_or_one q with hq2 | hq2
   ·rw [hq2] at hand
    have HQ2 := Hi hq2
    clear hq2
    go_wp2_with fail
    go_roundw
    case rel => exact ⟨i, A2, c2, l2, rfl, by go_num, hc2, ho2, ht2, by show _ = _; rw [HV2.out, ← HQ.out]; congr 1; have := HD.out; have := HQ2.out; omega, by omega, hb2⟩
    case measure => simp [intOf]
   ·rw [hq2] at hand
    have HQ2 := Hi hq2
    clear hq2
    go_wp2_with fail
    refine (product_all w w2 A2 A l2.length c2 l.length c l2 l rfl rfl (by omega) hc2 hlc ho2.ws (hl.below hb2) hb2).mono ?_
    rintro e w3 ⟨A3, c3, l3, rfl, hc3, ho3, ht3, hv3, hb3⟩
    have HV3 := Hi hv3
    clear hv3
    go_wp2_with fail
    go_roundw
    case rel => exact ⟨i, A3, c3, l3, rfl, by go_num, hc3, ho3, ht3, by show _ = _; rw [HV3.out, HV2.out, ← Nat.pow_succ, ← HQ.out]; congr 1; have := HD.out; have := HQ2.out; omega, by omega, hb3⟩
    case measure => simp [intOf]
theorem m7696a {P : Prop} (h : P := by
 cases neg
 ·go_wp2_with fail
  refine (power_gen _ A c l n M hM hl2 hlc hn HF.out (isB_top HB.out) hl1).mono ?_
  rintro e w3 ⟨A3, c3, l3, rfl, hc3, ho3, ht3, hv3, hb3⟩
  have hl3 : l3.length ≤ M := top_len ht3 (by rw [hv3]; exact HF.out _ (Nat.le_refl _))
  have HV3 := Hi hv3
  clear hv3
  go_wp2_with fail
  refine (signed_ip w1 w3 false A3 c3 l3 (by omega) hc3 ho3 ht3).mono ?_
  rintro e w4 ⟨⟨n4, A4, c4, l4, rfl, hi4, hl4⟩, hb4⟩
  have hbx4 := (hbx.below hb3).below hb4
  obtain ⟨x0, x1⟩ := hbx4.cs
  have f0 := hbx4.free 0
  have f1 := hbx4.free 1
  obtain ⟨k0, k1, k2⟩ := hbx4.back (.bool n4) (.slice A4 l4.length c4)
  go_wp2_with fail
  refine bodyPost_ret (v := .tuple #[.agg #[.bool n4, .slice A4 l4.length c4], .int .i64 0]) (by simp [results, Tryz.results72, go_sem, k0, k2]) rfl ?_
  have hs := hw.size
  have hsb := hb.size
  rw [World.size_alloc, World.size_alloc] at hsb
  have h5 := (hi4.two (p := w.heap.size + 1) (by omega) (.bool n4) (.slice A4 l4.length c4)).mono (a := a) (by omega)
  have hz := HZ.out l3 HV3.out
  rw [Bool.false_and] at hz
  refine ⟨n4, A4, c4, l4, rfl, ?_, b2 (bt (bt (bt hw (bt (ba (ba (b0 _) _) _) hb)) hb3) hb4) (by omega) _ _⟩
  rw [← hz]
  exact h5
 ·rcases Nat.mod_two_eq_zero_or_one n with hq2 | hq2
  ·rw [hq2] at hmod
   have HQ2 := Hi hq2
   clear hq2
   go_wp2_with fail
   refine (power_gen _ A c l n M hM hl2 hlc hn HF.out (isB_top HB.out) hl1).mono ?_
   rintro e w3 ⟨A3, c3, l3, rfl, hc3, ho3, ht3, hv3, hb3⟩
   have hl3 : l3.length ≤ M := top_len ht3 (by rw [hv3]; exact HF.out _ (Nat.le_refl _))
   have HV3 := Hi hv3
   clear hv3
   go_wp2_with fail
   refine (signed_ip w1 w3 false A3 c3 l3 (by omega) hc3 ho3 ht3).mono ?_
   rintro e w4 ⟨⟨n4, A4, c4, l4, rfl, hi4, hl4⟩, hb4⟩
   have hbx4 := (hbx.below hb3).below hb4
   obtain ⟨x0, x1⟩ := hbx4.cs
   have f0 := hbx4.free 0
   have f1 := hbx4.free 1
   obtain ⟨k0, k1, k2⟩ := hbx4.back (.bool n4) (.slice A4 l4.length c4)
   go_wp2_with fail
   refine bodyPost_ret (v := .tuple #[.agg #[.bool n4, .slice A4 l4.length c4], .int .i64 0]) (by simp [results, Tryz.results72, go_sem, k0, k2]) rfl ?_
   have hs := hw.size
   have hsb := hb.size
   rw [World.size_alloc, World.size_alloc] at hsb
   have h5 := (hi4.two (p := w.heap.size + 1) (by omega) (.bool n4) (.slice A4 l4.length c4)).mono (a := a) (by omega)
   have hz := HZ.out l3 HV3.out
   rw [HQ2.out, show (true && decide (0 = 1)) = false from rfl] at hz
   refine ⟨n4, A4, c4, l4, rfl, ?_, b2 (bt (bt (bt hw (bt (ba (ba (b0 _) _) _) hb)) hb3) hb4) (by omega) _ _⟩
   rw [← hz]
   exact h5
  ·rw [hq2] at hmod
   have HQ2 := Hi hq2
   clear hq2
   go_wp2_with fail
   refine (power_gen _ A c l n M hM hl2 hlc hn HF.out (isB_top HB.out) hl1).mono ?_
   rintro e w3 ⟨A3, c3, l3, rfl, hc3, ho3, ht3, hv3, hb3⟩
   have hl3 : l3.length ≤ M := top_len ht3 (by rw [hv3]; exact HF.out _ (Nat.le_refl _))
   have HV3 := Hi hv3
   clear hv3
   go_wp2_with fail
   refine (signed_ip w1 w3 true A3 c3 l3 (by omega) hc3 ho3 ht3).mono ?_
   rintro e w4 ⟨⟨n4, A4, c4, l4, rfl, hi4, hl4⟩, hb4⟩
   have hbx4 := (hbx.below hb3).below hb4
   obtain ⟨x0, x1⟩ := hbx4.cs
   have f0 := hbx4.free 0
   have f1 := hbx4.free 1
   obtain ⟨k0, k1, k2⟩ := hbx4.back (.bool n4) (.slice A4 l4.length c4)
   go_wp2_with fail
   refine bodyPost_ret (v := .tuple #[.agg #[.bool n4, .slice A4 l4.length c4], .int .i64 0]) (by simp [results, Tryz.results72, go_sem, k0, k2]) rfl ?_
   have hs := hw.size
   have hsb := hb.size
   rw [World.size_alloc, World.size_alloc] at hsb
   have h5 := (hi4.two (p := w.heap.size + 1) (by omega) (.bool n4) (.slice A4 l4.length c4)).mono (a := a) (by omega)
   have hz := HZ.out l3 HV3.out
   rw [HQ2.out, show (true && decide (1 = 1)) = true from rfl] at hz
   refine ⟨n4, A4, c4, l4, rfl, ?_, b2 (bt (bt (bt hw (bt (ba (ba (b0 _) _) _) hb)) hb3) hb4) (by omega) _ _⟩
   rw [← hz]
   exact h5) : P := h
theorem Pow_gen (a w : World) (neg : Bool) (A : Option Addr) (c : Nat) (l : List Nat) (n : Nat) (M : Nat) (hM : M ≤ 100000) (hl2 : l.length ≤ M) (hlc : l.length ≤ c) (hn : n < 9223372036854775808) (hfit : ∀ m, m ≤ n → val l ^ m < BB M) (hB : isB neg l = true) (hlim : ¬ (1 < bl l ∧ 1048576 / bl l < n)) (hl : WS w A l) (hw : Below a.heap.size a w) :
  Calls Tryz.prog 72 #[.agg #[.bool neg, .slice A l.length c], .int .i64 (n : Int)] w fun e w' => ∃ n1 A1 c1 l1, e = .returned (.tuple #[.agg #[.bool n1, .slice A1 l1.length c1], .int .i64 0]) ∧ IP a w' n1 A1 c1 l1 (zI neg l ^ n) ∧ Below a.heap.size a w' := by
 have HB := Hi hB
 have HF := Hi hfit
 have hz := fun l1 h => zI_pow neg l l1 n h
 have HZ := Hi hz
 clear hB hfit hz
 have hmod : (n : Int).tmod 2 = ((n % 2 : Nat) : Int) := by rw [Int.tmod_eq_emod_of_nonneg (by omega)]; simp
 have hnn : ¬ (n : Int) < 0 := by omega
 have hdec : ((((n % 2 : Nat) : Int) == 1) : Bool) = decide (n % 2 = 1) := by rcases Nat.mod_two_eq_zero_or_one n with h | h <;> rw [h] <;> rfl
 go_enter Tryz.func72, Tryz.ntmps72
 go_wp2_with fail
 refine (Is_any neg A _ c l _ rfl (by omega) (hl.below (ba (ba (b0 _) _) _))).mono ?_
 rintro e w1 ⟨rfl, hb⟩
 rw [HB.out]
 have hbx := (Box2.new (w.alloc (.cells #[.bool neg, .slice A l.length c] 24)) (.bool false) (.slice none 0 0)).below hb
 rw [World.size_alloc] at hbx
 have hby := ((Box2.new w (.bool neg) (.slice A l.length c)).alloc (.cells #[.bool false, .slice none 0 0] 24)).below hb
 obtain ⟨y0, y1⟩ := hby.cs
 have hl1 : WS w1 A l := hl.below (bt (ba (ba (b0 _) _) _) hb)
 go_wp2_with fail
 refine (bitLen_any A _ c l _ rfl (by omega) hl1).mono ?_
 rintro e w2 ⟨rfl, rfl⟩
 obtain ⟨m, hm⟩ : ∃ m, m = bl l := ⟨_, rfl⟩
 rw [← hm] at hlim ⊢
 clear hm hdec hnn
 have hnn : ¬ (n : Int) < 0 := by omega
 by_cases hb1 : 1 < m
 ·have hbi : (1 : Int) < (m : Int) := by omega
  have hm0 : ((m : Int) == 0) = false := beq_eq_false_iff_ne.2 (by omega)
  have hdiv : (1048576 : Int).tdiv (m : Int) = ((1048576 / m : Nat) : Int) := by rw [Int.tdiv_eq_ediv_of_nonneg (by omega)]; simp
  have hdle : 1048576 / m ≤ 1048576 := Nat.div_le_self _ _
  have hng : ¬ ((1048576 / m : Nat) : Int) < (n : Int) := by
   have h : ¬ 1048576 / m < n := fun h => hlim ⟨hb1, h⟩
   omega
  obtain ⟨d, hd⟩ : ∃ d, d = 1048576 / m := ⟨_, rfl⟩
  rw [← hd] at hdiv hdle hng
  clear hd hlim hb1
  exact m7696a
 ·have hbi : ¬ (1 : Int) < (m : Int) := by omega
  clear hlim hb1
  exact m7696a
open Go.RowKit Go.Shelf
theorem Print_zero (w : World) (A : Option Addr) (c : Nat) :
  Calls Tryz.prog 84 #[.agg #[.bool false, .slice A 0 c]] w fun e w' => e = .returned (.string ⟨#[48]⟩) ∧ Below w.heap.size w w' := by
 refine (callsIn_wide (n := 5)).1 ?_
 refine callsIn_of_wp_marks Tryz.func84 rfl trivial ?_ rfl
 simp only [Tryz.ntmps84, List.size_toArray, List.length_cons, List.length_nil, Nat.reduceAdd, Nat.reduceSub, Array.replicate_succ, Array.replicate_zero, List.push_toArray, List.append_toArray, List.nil_append, List.cons_append]
 gi_wp2
 refine ⟨trivial, ?_⟩
 refine (callsIn_wide.2 (Is_any false A 0 c [] _ rfl (by omega) (WS.nil_ _ _))).mono ?_
 rintro e w1 ⟨rfl, hb1⟩
 rw [show isB false [] = true from rfl]
 have hbx := (Box2.new w (.bool false) (.slice A 0 c)).below hb1
 obtain ⟨y0, y1⟩ := hbx.cs
 gi_wp2
 exact ⟨_, results_tmp rfl _ _ _, rfl, bt (ba (b0 _) _) hb1⟩
open Go.RowKit
variable {A : Option Addr} {c : Nat} {l : List Nat} {n : Bool} {w : World} {z : Int}
def IsTxt (s : ByteArray) (z : Int) : Prop :=
 (z = 0 ∧ s = ⟨#[48]⟩) ∨ (z ≠ 0 ∧ ∃ ds : List UInt8, s = ⟨((if z < 0 then [45] else []) ++ ds).toArray⟩ ∧ ds ≠ [] ∧ Plain ds ∧ dnum ds = z.natAbs)
theorem bytes_eta (s : ByteArray) : (⟨s.data.toList.toArray⟩ : ByteArray) = s := by cases s; simp
theorem IsTxt.uniq {s t : ByteArray} (h : IsTxt s z) (k : IsTxt t z) : s = t := by
 rcases h with ⟨h0, rfl⟩ | ⟨h0, ds, rfl, hne, hp, hd⟩
 ·rcases k with ⟨_, rfl⟩ | ⟨k0, _⟩
  ·rfl
  ·exact absurd h0 k0
 ·rcases k with ⟨k0, _⟩ | ⟨k0, es, rfl, kne, kp, kd⟩
  ·exact absurd k0 h0
  ·rw [plain_inj hp kp (hd.trans kd.symm)]
theorem digs_of {l : List UInt8} (h0 : l ≠ []) (h : ∀ c ∈ l, isDg c) : digs ⟨l.toArray⟩ = true := by
 unfold digs
 have hs : (⟨l.toArray⟩ : ByteArray).size = l.length := rfl
 rw [Bool.and_eq_true, decide_eq_true_eq, decide_eq_true_eq]
 refine ⟨by rw [hs]; exact fun e => h0 (List.eq_nil_of_length_eq_zero e), fun i hi => ?_⟩
 rw [byt_at hi]
 have : (⟨l.toArray⟩ : ByteArray)[i] = l[i]'(by rw [hs] at hi; exact hi) := rfl
 rw [this]
 exact h _ (List.getElem_mem _)
theorem pre_yes (ds : List UInt8) : pNeg ⟨(45 :: ds).toArray⟩ = true ∧ pDig ⟨(45 :: ds).toArray⟩ = ⟨ds.toArray⟩ := by
 constructor
 ·simp [pNeg, Lib.hasPrefix, List.isPrefixOf]
 ·simp [pDig, Lib.trimPrefix, Lib.hasPrefix, List.isPrefixOf]
theorem pre_no {s : ByteArray} (h : s.data.toList.head? ≠ some 45) : pNeg s = false ∧ pDig s = s := by
 have h1 : Lib.hasPrefix s.data.toList [45] = false := by
  cases hl : s.data.toList with
  | nil => rfl
  | cons c r =>
   rw [hl] at h
   simp only [List.head?_cons, ne_eq, Option.some.injEq] at h
   simp [Lib.hasPrefix, List.isPrefixOf]
   exact fun e => h e.symm
 refine ⟨h1, ?_⟩
 unfold pDig Lib.trimPrefix
 rw [h1]
 exact bytes_eta s
theorem plain_head {ds : List UInt8} (h : Plain ds) : ds.head? ≠ some 45 := by
 intro e
 cases ds with
 | nil => cases e
 | cons c r =>
  have := h.1 c (by simp)
  simp only [List.head?_cons, Option.some.injEq] at e
  subst e
  exact absurd this.1 (by decide)
theorem plain_byt {ds : List UInt8} (h : Plain ds) (h0 : ds ≠ []) : byt ⟨ds.toArray⟩ 0 ≠ 48 := by
 cases ds with
 | nil => exact absurd rfl h0
 | cons c r =>
  intro e
  have e' : c.toNat = 48 := e
  refine h.2 ?_
  simp only [List.head?_cons, Option.some.injEq]
  exact UInt8.toNat_inj.1 e'
theorem Parse_txt {s : ByteArray} (h : IsTxt s z) (hs : s.size ≤ 20000) (hT : Tens w) : Calls Tryz.prog 74 #[.string s] w (PRes w z) := by
 rcases h with ⟨rfl, rfl⟩ | ⟨h0, ds, rfl, hne, hp, hd⟩
 ·have h := Parse_ok w ⟨#[48]⟩ ⟨#[48]⟩ false (by rfl) (by rfl) (by decide) (fun _ => rfl) (by decide) hT
  exact h
 ·by_cases hz : z < 0
  ·rw [if_pos hz] at hs ⊢
   obtain ⟨g1, g2⟩ := pre_yes ds
   have h := Parse_ok w ⟨(45 :: ds).toArray⟩ ⟨ds.toArray⟩ true g2 g1 (digs_of hne hp.1) (fun e => absurd e (plain_byt hp hne)) (by
    have e1 : (⟨([45] ++ ds).toArray⟩ : ByteArray).size = ds.length + 1 := by show ([45] ++ ds).length = _; simp
    have e2 : (⟨ds.toArray⟩ : ByteArray).size = ds.length := rfl
    omega) hT
   rw [if_pos rfl] at h
   have e : -(dnum ds : Int) = z := by rw [hd]; omega
   have e2 : (⟨ds.toArray⟩ : ByteArray).data.toList = ds := by simp
   rw [e2, e] at h
   exact h
  ·rw [if_neg hz] at hs ⊢
   obtain ⟨g1, g2⟩ := pre_no (s := ⟨([] ++ ds).toArray⟩) (by simpa using plain_head hp)
   have h := Parse_ok w ⟨([] ++ ds).toArray⟩ ⟨ds.toArray⟩ false (by rw [g2]; rfl) g1 (digs_of hne hp.1) (fun e => absurd e (plain_byt hp hne)) hs hT
   rw [if_neg (by decide)] at h
   have e : (dnum ds : Int) = z := by rw [hd]; omega
   have e2 : (⟨ds.toArray⟩ : ByteArray).data.toList = ds := by simp
   rw [e2, e] at h
   exact h
def PrT (w : World) (z : Int) (e : Ending) (w' : World) : Prop := ∃ s, e = .returned (.string s) ∧ IsTxt s z ∧ Below w.heap.size w w'
theorem Print_can (hws : WS w A l) (hcan : isB n l = true) (hval : zI n l = z) (hlen : l.length ≤ 10000) (hT : Tens w) :
  Calls Tryz.prog 84 #[.agg #[.bool n, .slice A l.length c]] w (PrT w z) := by
 rcases Nat.eq_zero_or_pos l.length with h0 | h0
 ·obtain rfl := List.eq_nil_of_length_eq_zero h0
  obtain rfl : n = false := isB_nil hcan rfl
  refine (Print_zero w A c).mono ?_
  rintro e w' ⟨rfl, hb⟩
  exact ⟨_, rfl, .inl ⟨by rw [← hval]; rfl, rfl⟩, hb⟩
 ·have hv := val_pos (isB_top hcan) h0
  refine (Print_pos w n A c l h0 hlen hws hcan hT).mono ?_
  rintro e w' ⟨ds, rfl, hne, hp, hd, hb⟩
  refine ⟨_, rfl, .inr ⟨?_, ds, ?_, hne, hp, ?_⟩, hb⟩
  ·rw [← hval]; unfold zI; split <;> omega
  ·cases n
   ·have hz : ¬ z < 0 := by rw [← hval]; unfold zI; simp
    show (⟨([] ++ ds).toArray⟩ : ByteArray) = _
    rw [if_neg hz]
   ·have hz : z < 0 := by rw [← hval]; unfold zI; simp; omega
    show (⟨([45] ++ ds).toArray⟩ : ByteArray) = _
    rw [if_pos hz]
  ·rw [hd, ← hval]; unfold zI; split <;> omega
theorem Print_iv (h : IV w n A c l z) (hT : Tens w) :
  Calls Tryz.prog 84 #[.agg #[.bool n, .slice A l.length c]] w (PrT w z) := by
 have e1 := h.len
 exact Print_can h.ws h.can h.val (by omega) hT
theorem bb_pow (n : Nat) : BB n = 2 ^ (32 * n) := by unfold BB; rw [show (4294967296 : Nat) = 2 ^ 32 from rfl, ← Nat.pow_mul]
theorem IsTxt.size {s : ByteArray} (h : IsTxt s z) (hz : Lt 60 z) : s.size ≤ 2000 := by
 rcases h with ⟨_, rfl⟩ | ⟨_, ds, rfl, hne, hp, hv⟩
 ·decide
 ·have h1 := plain_lower hp hne
  have h2 : z.natAbs < BB 60 := hz
  have h3 : 2 ^ (ds.length - 1) ≤ 10 ^ (ds.length - 1) := Nat.pow_le_pow_left (by decide) _
  have h5 := Nat.lt_of_le_of_lt h3 (Nat.lt_of_le_of_lt (hv ▸ h1) h2)
  rw [bb_pow] at h5
  have h6 := (Nat.pow_lt_pow_iff_right (by decide : 1 < 2)).1 h5
  show ((if z < 0 then [45] else []) ++ ds).length ≤ 2000
  rw [List.length_append]
  split <;> simp <;> omega
open Go.RowKit
theorem pow2_lt {e n : Nat} (h : e < 32 * n) : 2 ^ e < BB n := by rw [bb_pow]; exact Nat.pow_lt_pow_right (by decide) h
theorem IsTxt.lt {s : ByteArray} {z : Int} (h : IsTxt s z) (hs : s.size ≤ 3000) : Lt 400 z := by
 rcases h with ⟨rfl, _⟩ | ⟨_, ds, rfl, hne, hp, hv⟩
 ·exact lt_zero _
 ·have h1 := dnum_lt ds hp.1
  have h2 : (10 : Nat) ^ ds.length ≤ 16 ^ ds.length := Nat.pow_le_pow_left (by decide) _
  have h3 : (16 : Nat) ^ ds.length = 2 ^ (4 * ds.length) := by rw [show (16 : Nat) = 2 ^ 4 from rfl, ← Nat.pow_mul]
  have h4 : ds.length ≤ 3000 := by
   have : ((if z < 0 then [45] else []) ++ ds : List UInt8).length ≤ 3000 := hs
   rw [List.length_append] at this
   omega
  have h5 : 2 ^ (4 * ds.length) < BB 400 := pow2_lt (by omega)
  unfold Lt
  rw [← hv]
  omega
end Go.Proofs.YtgljdfblgpdaaaaGreatDoor
