import Derived.Test.YtgljdfblgpdaaaaGreatDoorPbSanA
import Derived.Test.YtgljdfblgpdaaaaGreatDoorTyRatTp
import Derived.Test.YtgljdfblgpdaaaaGreatDoorTyRatTm
import Derived.Test.YtgljdfblgpdaaaaGreatDoorTyRatTs
set_option linter.unusedSimpArgs false
set_option linter.unusedVariables false
set_option maxRecDepth 100000
set_option maxHeartbeats 4000000
namespace Go.Proofs.YtgljdfblgpdaaaaGreatDoor
open Go.RowKit Go.Shelf
attribute [local go_sem] Oper.semAt_some
open Go.RowKit Go.Shelf
attribute [local go_sem] Oper.semAt_some
open Go.RowKit Go.Shelf
attribute [local go_sem] Oper.semAt_some
open Go Go.RowKit Go.Shelf
theorem RPrint_iv {w : World} {n : Bool} {A : Option Addr} {c : Nat} {l : List Nat} {z : Int} (h : IV w n A c l z) :
    Calls Tryz.prog 123 #[.agg #[.bool n, .slice A l.length c]] w (PrT w z) := by
  have hlen := h.len
  have hval := h.val
  rcases Nat.eq_zero_or_pos l.length with h0 | h0
  · obtain rfl := List.eq_nil_of_length_eq_zero h0
    obtain rfl : n = false := isB_nil h.can rfl
    refine (RPrint_zero w A c).mono ?_
    rintro e w' ⟨rfl, hb⟩
    exact ⟨_, rfl, .inl ⟨by rw [← hval]; rfl, rfl⟩, hb⟩
  · have hv := val_pos (isB_top h.can) h0
    refine (RPrint_pos w n A c l h0 (by omega) h.ws h.can).mono ?_
    rintro e w' ⟨ds, rfl, hne, hp, hd, hb⟩
    refine ⟨_, rfl, .inr ⟨?_, ds, ?_, hne, hp, ?_⟩, hb⟩
    · rw [← hval]; unfold zI; split <;> omega
    · cases n
      · have hz : ¬ z < 0 := by rw [← hval]; unfold zI; simp
        show (⟨([] ++ ds).toArray⟩ : ByteArray) = _
        rw [if_neg hz]
      · have hz : z < 0 := by rw [← hval]; unfold zI; simp; omega
        show (⟨([45] ++ ds).toArray⟩ : ByteArray) = _
        rw [if_pos hz]
    · rw [hd, ← hval]; unfold zI; split <;> omega
theorem QPrint_any {w : World} {n m : Bool} {A B : Option Addr} {c d : Nat} {l k : List Nat} {x y : Int} (h : IV w n A c l x) (h2 : IV w m B d k y) (hT : Tens w) :
    Calls Tryz.prog 66 #[.agg #[.bool n, .slice A l.length c, .bool m, .slice B k.length d]] w (PrQ w x y) := by
  by_cases hy : y = 1
  · exact QPrint_one h h2 hT hy
  · exact QPrint_frac h h2 hT hy
set_option maxRecDepth 100000 in
set_option maxHeartbeats 4000000 in
theorem RQPrint_any {w : World} {n m : Bool} {A B : Option Addr} {c d : Nat} {l k : List Nat} {x y : Int} (h : IV w n A c l x) (h2 : IV w m B d k y) :
    Calls Tryz.prog 67 #[.agg #[.bool n, .slice A l.length c, .bool m, .slice B k.length d]] w (PrQ w x y) := by
  have J1 := Lib.hid h
  have J2 := Lib.hid h2
  clear h h2
  obtain ⟨W1, hW1, hw1, x0⟩ : ∃ W, W = w.alloc (.cells #[.bool n, .slice A l.length c, .bool m, .slice B k.length d] 35) ∧ Below w.heap.size w W ∧ Box4 W (w.heap.size) (.bool n) (.slice A l.length c) (.bool m) (.slice B k.length d) := by
    refine ⟨_, rfl, ba (b0 _) _, ?_⟩
    · have h := Box4.new w (.bool n) (.slice A l.length c) (.bool m) (.slice B k.length d)
      exact h
  go_enter Tryz.func67, Tryz.ntmps67
  go_wp2_with fail
  rw [← hW1]
  clear hW1
  have c_x0_0 := x0.cell0
  have c_x0_1 := x0.cell1
  have c_x0_2 := x0.cell2
  have c_x0_3 := x0.cell3
  go_wp2_with fail
  refine (RPrint_iv (J1.out.below hw1)).mono ?_
  rintro e w2 ⟨s1, rfl, hs1, hb⟩
  clear c_x0_0 c_x0_1 c_x0_2 c_x0_3
  replace x0 := x0.below hb
  have hw1_ := bt hw1 hb
  clear hb hw1 
  have LS1 := Lib.hid (J1.out.txt hs1)
  have HS1 := Lib.hid hs1
  clear hs1
  go_upto_region 2 with fail
  go_cut [11] (fun v wx => v = .bool (!decide (y = 1)) ∧ Below w2.heap.size w2 wx)
  case first =>
    as_aux_lemma =>
    have HC := x0.hc
    have HW := Lib.hid hw1_
    have Gx0 := Lib.hid x0
    clear x0 hw1_
    refine rgh HC fun hHeld => ?_
    obtain ⟨wd, hwd⟩ : ∃ W, W = w2.drew := ⟨_, rfl⟩
    have HBd : Hid (Below w2.heap.size w2 wd) := Lib.hid (by rw [hwd]; exact bw (b0 _))
    rw [← hwd] at hHeld ⊢
    clear hwd
    refine tk 0 ?_
    refine tk 1 ?_
    refine cl 2 fun K hK => ?_
    go_simp
    go_at_call 107
    refine (Rone_iv _).mono ?_
    rintro e y4 ⟨n3, A3, c3, l3, rfl, i3, hb⟩
    have HBy4 := Lib.hid (bt HBd.out hb)
    have J3 := Lib.hid i3
    clear hb i3 hHeld
    refine rk hK (HC.out _ HBy4.out) fun hHeld => ?_
    clear hK K
    refine cl 3 fun K hK => ?_
    go_simp
    go_at_call 17
    refine (Same_d (J2.out.below (bt HW.out HBy4.out)) J3.out).mono ?_
    rintro e y5 ⟨rfl, hb⟩
    replace J3 := Lib.hid (J3.out.below hb)
    have HBy5 := Lib.hid (bt HBy4.out hb)
    clear hb  hHeld
    refine rk hK (HC.out _ HBy5.out) fun hHeld => ?_
    clear hK K
    refine tk 4 ?_
    refine wpAnyH_done (by kernel_rfl) ?_ _
    clear hHeld
    go_wp2_with fail
    go_meet
    exact ⟨rfl, HBy5.out⟩
  case rest =>
  obtain ⟨rfl, hb⟩ := hcut
  obtain ⟨w3, hwn⟩ : ∃ v, v = wc := ⟨_, rfl⟩
  rw [← hwn] at hb ⊢
  clear hwn wc
  replace x0 := x0.below hb
  have hw2_ := bt hw1_ hb
  clear hb hw1_ 
  by_cases hy : y = 1
  · rw [decide_eq_true hy]
    have HY := Lib.hid hy
    clear hy
    go_wp2_with fail
    go_ret
    exact ⟨s1, rfl, .inl ⟨HY.out, HS1.out⟩, hw2_⟩
  rw [decide_eq_false hy]
  have HY := Lib.hid hy
  clear hy
  have ls1 := LS1.out
  have sn1 : ¬ 9223372036854775807 < s1.size + 1 := by omega
  have c_x0_0 := x0.cell0
  have c_x0_1 := x0.cell1
  have c_x0_2 := x0.cell2
  have c_x0_3 := x0.cell3
  go_wp2_with fail
  refine (RPrint_iv (J2.out.below hw2_)).mono ?_
  rintro e w6 ⟨s2, rfl, hs2, hb⟩
  clear c_x0_0 c_x0_1 c_x0_2 c_x0_3
  replace x0 := x0.below hb
  have hw3_ := bt hw2_ hb
  clear hb hw2_ 
  have LS2 := Lib.hid (J2.out.txt hs2)
  have HS2 := Lib.hid hs2
  have ls2 := LS2.out
  have sn2 : ¬ 9223372036854775807 < s1.size + 1 + s2.size := by omega
  clear hs2
  go_wp2_with fail
  go_ret
  exact ⟨_, rfl, .inr ⟨HY.out, s1, s2, HS1.out, HS2.out, rfl⟩, hw3_⟩
set_option maxRecDepth 100000 in
set_option maxHeartbeats 4000000 in
theorem RatTexts_mid {w : World} {n m : Bool} {A B : Option Addr} {c d : Nat} {l k : List Nat} (s : ByteArray) (hl : WS w A l) (hk : WS w B k) (hc : l.length ≤ c) (hd : k.length ≤ d) (hT : Tens w) (h1 : 2000 < s.size) (h2 : s.size ≤ 20000) :
    Calls Tryz.prog 9 #[.string s, .agg #[.bool n, .slice A l.length c, .bool m, .slice B k.length d]] w fun e w' => e = .returned (.bool true) ∧ Below w.heap.size w w' := by
  have HTn := Lib.hid hT
  have HL := Lib.hid hl
  have HK := Lib.hid hk
  clear hT hl hk
  have hA : (2000 : Int) < (s.size : Int) := by omega
  have hB : (s.size : Int) ≤ 20000 := by omega
  clear h1 h2
  obtain ⟨W1, hW1, hw1, x0⟩ : ∃ W, W = w.alloc (.cells #[.bool n, .slice A l.length c, .bool m, .slice B k.length d] 35) ∧ Below w.heap.size w W ∧ Box4 W (w.heap.size) (.bool n) (.slice A l.length c) (.bool m) (.slice B k.length d) := by
    refine ⟨_, rfl, ba (b0 _) _, ?_⟩
    · have h := Box4.new w (.bool n) (.slice A l.length c) (.bool m) (.slice B k.length d)
      exact h
  go_enter Tryz.func9, Tryz.ntmps9
  go_wp2_with fail
  rw [← hW1]
  clear hW1
  go_wp2_with fail
  refine (sane2 _ (HTn.out.below hw1)).mono ?_
  rintro e1 wz ⟨rfl, hb⟩
  replace x0 := x0.below hb
  have hw1_ := bt hw1 hb
  clear hb hw1 
  go_wp2_with fail
  go_ret
  exact ⟨rfl, hw1_⟩
set_option maxRecDepth 100000 in
set_option maxHeartbeats 4000000 in
theorem RatTexts_big {w : World} {n m : Bool} {A B : Option Addr} {c d : Nat} {l k : List Nat} (s : ByteArray) (hl : WS w A l) (hk : WS w B k) (hc : l.length ≤ c) (hd : k.length ≤ d) (hT : Tens w) (h1 : 60000 < s.size) :
    Calls Tryz.prog 9 #[.string s, .agg #[.bool n, .slice A l.length c, .bool m, .slice B k.length d]] w fun e w' => e = .returned (.bool true) ∧ Below w.heap.size w w' := by
  have HTn := Lib.hid hT
  have HL := Lib.hid hl
  have HK := Lib.hid hk
  clear hT hl hk
  have hA : (2000 : Int) < (s.size : Int) := by omega
  have hB : ¬ (s.size : Int) ≤ 20000 := by omega
  have hC : (60000 : Int) < (s.size : Int) := by omega
  clear h1
  obtain ⟨W1, hW1, hw1, x0⟩ : ∃ W, W = w.alloc (.cells #[.bool n, .slice A l.length c, .bool m, .slice B k.length d] 35) ∧ Below w.heap.size w W ∧ Box4 W (w.heap.size) (.bool n) (.slice A l.length c) (.bool m) (.slice B k.length d) := by
    refine ⟨_, rfl, ba (b0 _) _, ?_⟩
    · have h := Box4.new w (.bool n) (.slice A l.length c) (.bool m) (.slice B k.length d)
      exact h
  go_enter Tryz.func9, Tryz.ntmps9
  go_wp2_with fail
  rw [← hW1]
  clear hW1
  go_wp2_with fail
  refine (sane2 _ (HTn.out.below hw1)).mono ?_
  rintro e1 wz ⟨rfl, hb⟩
  replace x0 := x0.below hb
  have hw1_ := bt hw1 hb
  clear hb hw1 
  go_wp2_with fail
  go_ret
  exact ⟨rfl, hw1_⟩
set_option maxRecDepth 100000 in
set_option maxHeartbeats 4000000 in
theorem RatTexts_no1 {w : World} {n m : Bool} {A B : Option Addr} {c d : Nat} {l k : List Nat} (s : ByteArray) (hl : WS w A l) (hk : WS w B k) (hc : l.length ≤ c) (hd : k.length ≤ d) (hT : Tens w) (h1 : s.size ≤ 2000) (hno : (decide (l.length ≤ 40) && decide (k.length ≤ 40) && isQ n l m k) = false) :
    Calls Tryz.prog 9 #[.string s, .agg #[.bool n, .slice A l.length c, .bool m, .slice B k.length d]] w fun e w' => e = .returned (.bool true) ∧ Below w.heap.size w w' := by
  have HTn := Lib.hid hT
  have HL := Lib.hid hl
  have HK := Lib.hid hk
  clear hT hl hk
  have hA : ¬ (2000 : Int) < (s.size : Int) := by omega
  have hC : ¬ (60000 : Int) < (s.size : Int) := by omega
  clear h1
  have HNO := Lib.hid hno
  clear hno
  obtain ⟨W1, hW1, hw1, x0⟩ : ∃ W, W = w.alloc (.cells #[.bool n, .slice A l.length c, .bool m, .slice B k.length d] 35) ∧ Below w.heap.size w W ∧ Box4 W (w.heap.size) (.bool n) (.slice A l.length c) (.bool m) (.slice B k.length d) := by
    refine ⟨_, rfl, ba (b0 _) _, ?_⟩
    · have h := Box4.new w (.bool n) (.slice A l.length c) (.bool m) (.slice B k.length d)
      exact h
  go_enter Tryz.func9, Tryz.ntmps9
  go_wp2_with fail
  rw [← hW1]
  clear hW1
  have c_x0_0 := x0.cell0
  have c_x0_1 := x0.cell1
  have c_x0_2 := x0.cell2
  have c_x0_3 := x0.cell3
  go_wp2_with fail
  have r := small_any (n := n) (m := m) (N := 40) (by decide) (HL.out.below hw1) (HK.out.below hw1) hc hd
  rw [HNO.out] at r
  refine (r).mono ?_
  rintro e w2 ⟨rfl, hb⟩
  clear c_x0_0 c_x0_1 c_x0_2 c_x0_3
  replace x0 := x0.below hb
  have hw1_ := bt hw1 hb
  clear hb hw1 
  go_wp2_with fail
  refine (sane2 _ (HTn.out.below hw1_)).mono ?_
  rintro e1 wz ⟨rfl, hb⟩
  replace x0 := x0.below hb
  have hw2_ := bt hw1_ hb
  clear hb hw1_ 
  go_wp2_with fail
  go_ret
  exact ⟨rfl, hw2_⟩
set_option maxRecDepth 100000 in
set_option maxHeartbeats 4000000 in
theorem RatTexts_no2 {w : World} {n m : Bool} {A B : Option Addr} {c d : Nat} {l k : List Nat} (s : ByteArray) (hl : WS w A l) (hk : WS w B k) (hc : l.length ≤ c) (hd : k.length ≤ d) (hT : Tens w) (h1 : 20000 < s.size) (h2 : s.size ≤ 60000) (hno : (decide (l.length ≤ 40) && decide (k.length ≤ 40) && isQ n l m k) = false) :
    Calls Tryz.prog 9 #[.string s, .agg #[.bool n, .slice A l.length c, .bool m, .slice B k.length d]] w fun e w' => e = .returned (.bool true) ∧ Below w.heap.size w w' := by
  have HTn := Lib.hid hT
  have HL := Lib.hid hl
  have HK := Lib.hid hk
  clear hT hl hk
  have hA : (2000 : Int) < (s.size : Int) := by omega
  have hB : ¬ (s.size : Int) ≤ 20000 := by omega
  have hC : ¬ (60000 : Int) < (s.size : Int) := by omega
  clear h1 h2
  have HNO := Lib.hid hno
  clear hno
  obtain ⟨W1, hW1, hw1, x0⟩ : ∃ W, W = w.alloc (.cells #[.bool n, .slice A l.length c, .bool m, .slice B k.length d] 35) ∧ Below w.heap.size w W ∧ Box4 W (w.heap.size) (.bool n) (.slice A l.length c) (.bool m) (.slice B k.length d) := by
    refine ⟨_, rfl, ba (b0 _) _, ?_⟩
    · have h := Box4.new w (.bool n) (.slice A l.length c) (.bool m) (.slice B k.length d)
      exact h
  go_enter Tryz.func9, Tryz.ntmps9
  go_wp2_with fail
  rw [← hW1]
  clear hW1
  have c_x0_0 := x0.cell0
  have c_x0_1 := x0.cell1
  have c_x0_2 := x0.cell2
  have c_x0_3 := x0.cell3
  go_wp2_with fail
  have r := small_any (n := n) (m := m) (N := 40) (by decide) (HL.out.below hw1) (HK.out.below hw1) hc hd
  rw [HNO.out] at r
  refine (r).mono ?_
  rintro e w2 ⟨rfl, hb⟩
  clear c_x0_0 c_x0_1 c_x0_2 c_x0_3
  replace x0 := x0.below hb
  have hw1_ := bt hw1 hb
  clear hb hw1 
  go_wp2_with fail
  refine (sane2 _ (HTn.out.below hw1_)).mono ?_
  rintro e1 wz ⟨rfl, hb⟩
  replace x0 := x0.below hb
  have hw2_ := bt hw1_ hb
  clear hb hw1_ 
  go_wp2_with fail
  go_ret
  exact ⟨rfl, hw2_⟩
theorem small_pow {w : World} {n : Bool} {A : Option Addr} {c : Nat} {l : List Nat} {z : Int} (h : IV w n A c l z) (hl : l.length ≤ 40) : z.natAbs < 2 ^ 10000 := by
  have h2 := lt_le (lt_val h.ws h.val) hl
  unfold Lt at h2
  obtain ⟨m, hm⟩ : ∃ m, m = 40 := ⟨_, rfl⟩
  obtain ⟨e, he⟩ : ∃ e, e = 10000 := ⟨_, rfl⟩
  rw [← hm, bb_pow] at h2
  rw [← he]
  exact Nat.lt_of_lt_of_le h2 (Nat.pow_le_pow_right (by decide) (by omega))
theorem qtxt_size {s : ByteArray} {x y : Int} (h : QTxt s x y) (hx : x.natAbs < 2 ^ 10000) (hy : y.natAbs < 2 ^ 10000) : s.size ≤ 60000 := by
  rcases h with ⟨_, h⟩ | ⟨_, a, b, h1, h2, rfl⟩
  · have := h.any hx
    omega
  · have e1 := h1.any hx
    have e2 := h2.any hy
    rw [ByteArray.size_append, ByteArray.size_append, show (⟨#[47]⟩ : ByteArray).size = 1 from rfl]
    omega
set_option maxRecDepth 100000 in
set_option maxHeartbeats 4000000 in
theorem RatTexts_main {w : World} {n m : Bool} {A B : Option Addr} {c d : Nat} {l k : List Nat} (s : ByteArray) (hl : WS w A l) (hk : WS w B k) (hc : l.length ≤ c) (hd : k.length ≤ d) (hT : Tens w) (hyes : (decide (l.length ≤ 40) && decide (k.length ≤ 40) && isQ n l m k) = true) (hsz : s.size ≤ 2000 ∨ (20000 < s.size ∧ s.size ≤ 60000)) :
    Calls Tryz.prog 9 #[.string s, .agg #[.bool n, .slice A l.length c, .bool m, .slice B k.length d]] w fun e w' => e = .returned (.bool true) ∧ Below w.heap.size w w' := by
  have HTn := Lib.hid hT
  have HL := Lib.hid hl
  have HK := Lib.hid hk
  clear hT hl hk
  have HYES := Lib.hid hyes
  have HSZ := Lib.hid hsz
  clear hyes hsz
  obtain ⟨W1, hW1, hw1, x0⟩ : ∃ W, W = w.alloc (.cells #[.bool n, .slice A l.length c, .bool m, .slice B k.length d] 35) ∧ Below w.heap.size w W ∧ Box4 W (w.heap.size) (.bool n) (.slice A l.length c) (.bool m) (.slice B k.length d) := by
    refine ⟨_, rfl, ba (b0 _) _, ?_⟩
    · have h := Box4.new w (.bool n) (.slice A l.length c) (.bool m) (.slice B k.length d)
      exact h
  go_enter Tryz.func9, Tryz.ntmps9
  go_upto_region 1 with fail
  rw [← hW1]
  clear hW1
  have HQ := isQ_can (by have h := HYES.out; simp only [Bool.and_eq_true] at h; exact h.2)
  have HLEN : Hid (l.length ≤ 40 ∧ k.length ≤ 40) := Lib.hid (by have h := HYES.out; simp only [Bool.and_eq_true, decide_eq_true_eq] at h; exact h.1)
  obtain ⟨x, hx⟩ : ∃ x, x = zI n l := ⟨_, rfl⟩
  obtain ⟨y, hy⟩ : ∃ y, y = zI m k := ⟨_, rfl⟩
  have HCN : Hid (Can x y) := Lib.hid (by rw [hx, hy]; exact HQ.2.2)
  have I1 : Hid (IV w n A c l x) := Lib.hid ⟨hc, HL.out, HQ.1, hx.symm, by have := HLEN.out; omega⟩
  have I2 : Hid (IV w m B d k y) := Lib.hid ⟨hd, HK.out, HQ.2.1, hy.symm, by have := HLEN.out; omega⟩
  have HX : Hid (x.natAbs < 2 ^ 10000) := Lib.hid (small_pow I1.out HLEN.out.1)
  have HY : Hid (y.natAbs < 2 ^ 10000) := Lib.hid (small_pow I2.out HLEN.out.2)
  clear HQ hx hy
  obtain ⟨px, py, pe_, hpq, hrd⟩ := pq_of s
  have HPQ := Lib.hid hpq
  have HRD := Lib.hid hrd
  clear hpq hrd
  have HS6 : Hid (s.size ≤ 60000) := Lib.hid (by have := HSZ.out; omega)
  go_cut [29] (fun v wx => v = .bool false ∧ Below W1.heap.size W1 wx)
  case first =>
    as_aux_lemma =>
    have c_x0_0 := x0.cell0
    have c_x0_1 := x0.cell1
    have c_x0_2 := x0.cell2
    have c_x0_3 := x0.cell3
    rcases HSZ.out with h1 | ⟨h1, h2⟩
    · have hA : ¬ (2000 : Int) < (s.size : Int) := by omega
      have hC : ¬ (60000 : Int) < (s.size : Int) := by omega
      clear h1
      go_wp2_with fail
      have r := small_any (n := n) (m := m) (N := 40) (by decide) (HL.out.below hw1) (HK.out.below hw1) hc hd
      rw [HYES.out] at r
      refine r.mono ?_
      rintro e wy ⟨rfl, hb⟩
      go_wp2_with fail
      go_meet
      exact ⟨rfl, hb⟩
    · have hA : (2000 : Int) < (s.size : Int) := by omega
      have hB : ¬ (s.size : Int) ≤ 20000 := by omega
      have hC : ¬ (60000 : Int) < (s.size : Int) := by omega
      clear h1 h2
      go_wp2_with fail
      have r := small_any (n := n) (m := m) (N := 40) (by decide) (HL.out.below hw1) (HK.out.below hw1) hc hd
      rw [HYES.out] at r
      refine r.mono ?_
      rintro e wy ⟨rfl, hb⟩
      go_wp2_with fail
      go_meet
      exact ⟨rfl, hb⟩
  case rest =>
  obtain ⟨rfl, hb⟩ := hcut
  obtain ⟨w2, hwn⟩ : ∃ v, v = wc := ⟨_, rfl⟩
  rw [← hwn] at hb ⊢
  clear hwn wc
  replace x0 := x0.below hb
  have hw1_ := bt hw1 hb
  clear hb hw1 
  go_wp2_with fail
  refine ((QParse_any _ s HS6.out (HTn.out.below hw1_)).mono fun e w' h => HRD.out _ e w' h).mono ?_
  rintro e w3 ⟨n1, A1, c1, l1, m1, B1, d1, k1, rfl, i1, j1, hb⟩
  replace x0 := x0.below hb
  have hw2_ := bt hw1_ hb
  clear hb hw1_ 
  have P1 := Lib.hid i1
  have Q1 := Lib.hid j1
  clear i1 j1
  go_upto_region 4 with fail
  obtain ⟨w4, hw⟩ : ∃ W, W = w3.alloc (.cells #[.bool n1, .slice A1 l1.length c1, .bool m1, .slice B1 k1.length d1] 35) := ⟨_, rfl⟩
  have xb : Box4 w4 w3.heap.size (.bool n1) (.slice A1 l1.length c1) (.bool m1) (.slice B1 k1.length d1) := by rw [hw]; exact Box4.new _ _ _ _ _
  have hb : Below w3.heap.size w3 w4 := by rw [hw]; exact ba (b0 _) _
  obtain ⟨xbp, hxbp⟩ : ∃ p, p = w3.heap.size := ⟨_, rfl⟩
  rw [← hxbp] at xb ⊢
  rw [← hw]
  clear hw hxbp
  replace x0 := x0.below hb
  replace P1 := Lib.hid (P1.out.below hb)
  replace Q1 := Lib.hid (Q1.out.below hb)
  have hw3_ := bt hw2_ hb
  clear hb hw2_ 
  go_wp2_with fail
  refine ((RQParse_any _ s HS6.out).mono fun e w' h => HRD.out _ e w' h).mono ?_
  rintro e w5 ⟨n2, A2, c2, l2, m2, B2, d2, k2, rfl, i2, j2, hb⟩
  replace x0 := x0.below hb
  replace xb := xb.below hb
  replace P1 := Lib.hid (P1.out.below hb)
  replace Q1 := Lib.hid (Q1.out.below hb)
  have hw4_ := bt hw3_ hb
  clear hb hw3_ 
  have P2 := Lib.hid i2
  have Q2 := Lib.hid j2
  clear i2 j2
  go_upto_region 5 with fail
  obtain ⟨w6, hw⟩ : ∃ W, W = w5.alloc (.cells #[.bool n2, .slice A2 l2.length c2, .bool m2, .slice B2 k2.length d2] 35) := ⟨_, rfl⟩
  have xc : Box4 w6 w5.heap.size (.bool n2) (.slice A2 l2.length c2) (.bool m2) (.slice B2 k2.length d2) := by rw [hw]; exact Box4.new _ _ _ _ _
  have hb : Below w5.heap.size w5 w6 := by rw [hw]; exact ba (b0 _) _
  obtain ⟨xcp, hxcp⟩ : ∃ p, p = w5.heap.size := ⟨_, rfl⟩
  rw [← hxcp] at xc ⊢
  rw [← hw]
  clear hw hxcp
  replace x0 := x0.below hb
  replace xb := xb.below hb
  replace P1 := Lib.hid (P1.out.below hb)
  replace Q1 := Lib.hid (Q1.out.below hb)
  replace P2 := Lib.hid (P2.out.below hb)
  replace Q2 := Lib.hid (Q2.out.below hb)
  have hw5_ := bt hw4_ hb
  clear hb hw4_ 
  go_cut [59] (fun v wx => v = .bool false ∧ Below w6.heap.size w6 wx)
  case first =>
    as_aux_lemma =>
    have hsub := b0 w6
    have c_xb_0 := xb.cell0
    have c_xb_1 := xb.cell1
    have c_xb_2 := xb.cell2
    have c_xb_3 := xb.cell3
    have c_xc_0 := xc.cell0
    have c_xc_1 := xc.cell1
    have c_xc_2 := xc.cell2
    have c_xc_3 := xc.cell3
    by_cases h0 : pe_ = 0
    · subst h0
      go_wp2_with fail
      refine (RQSame_iv P1.out Q1.out P2.out Q2.out).mono ?_
      rintro e w7 ⟨rfl, hb⟩
      clear c_xb_0 c_xb_1 c_xb_2 c_xb_3 c_xc_0 c_xc_1 c_xc_2 c_xc_3
      replace hsub := bt hsub hb
      replace x0 := x0.below hb
      replace xb := xb.below hb
      replace xc := xc.below hb
      replace P1 := Lib.hid (P1.out.below hb)
      replace Q1 := Lib.hid (Q1.out.below hb)
      replace P2 := Lib.hid (P2.out.below hb)
      replace Q2 := Lib.hid (Q2.out.below hb)
      have hw6_ := bt hw5_ hb
      clear hb hw5_ 
      have c_xb_0 := xb.cell0
      have c_xb_1 := xb.cell1
      have c_xb_2 := xb.cell2
      have c_xb_3 := xb.cell3
      go_wp2_with fail
      refine (QPrint_any P1.out Q1.out (HTn.out.below hw6_)).mono ?_
      rintro e w8 ⟨s9, rfl, hs9, hb⟩
      clear c_xb_0 c_xb_1 c_xb_2 c_xb_3
      replace hsub := bt hsub hb
      replace x0 := x0.below hb
      replace xb := xb.below hb
      replace xc := xc.below hb
      replace P1 := Lib.hid (P1.out.below hb)
      replace Q1 := Lib.hid (Q1.out.below hb)
      replace P2 := Lib.hid (P2.out.below hb)
      replace Q2 := Lib.hid (Q2.out.below hb)
      have hw7_ := bt hw6_ hb
      clear hb hw6_ 
      obtain rfl : s9 = s := hs9.uniq HPQ.out.txt
      clear hs9
      go_wp2_with fail
      go_meet
      exact ⟨rfl, hsub⟩
    · have g0 : (pe_ == 0) = false := beq_eq_false_iff_ne.2 h0
      clear h0
      go_wp2_with fail
      refine (RQSame_iv P1.out Q1.out P2.out Q2.out).mono ?_
      rintro e w7 ⟨rfl, hb⟩
      clear c_xb_0 c_xb_1 c_xb_2 c_xb_3 c_xc_0 c_xc_1 c_xc_2 c_xc_3
      replace hsub := bt hsub hb
      replace x0 := x0.below hb
      replace xb := xb.below hb
      replace xc := xc.below hb
      replace P1 := Lib.hid (P1.out.below hb)
      replace Q1 := Lib.hid (Q1.out.below hb)
      replace P2 := Lib.hid (P2.out.below hb)
      replace Q2 := Lib.hid (Q2.out.below hb)
      have hw8_ := bt hw5_ hb
      clear hb hw5_ 
      go_wp2_with fail
      go_meet
      exact ⟨rfl, hsub⟩
  case rest =>
  obtain ⟨rfl, hb⟩ := hcut
  obtain ⟨w7, hwn⟩ : ∃ v, v = wc := ⟨_, rfl⟩
  rw [← hwn] at hb ⊢
  clear hwn wc
  replace x0 := x0.below hb
  replace xb := xb.below hb
  replace xc := xc.below hb
  replace P1 := Lib.hid (P1.out.below hb)
  replace Q1 := Lib.hid (Q1.out.below hb)
  replace P2 := Lib.hid (P2.out.below hb)
  replace Q2 := Lib.hid (Q2.out.below hb)
  have hw9_ := bt hw5_ hb
  clear hb hw5_ 
  have c_x0_0 := x0.cell0
  have c_x0_1 := x0.cell1
  have c_x0_2 := x0.cell2
  have c_x0_3 := x0.cell3
  go_wp2_with fail
  refine (QPrint_any (I1.out.below hw9_) (I2.out.below hw9_) (HTn.out.below hw9_)).mono ?_
  rintro e w8 ⟨t, rfl, ht, hb⟩
  clear c_x0_0 c_x0_1 c_x0_2 c_x0_3
  replace x0 := x0.below hb
  replace xb := xb.below hb
  replace xc := xc.below hb
  replace P1 := Lib.hid (P1.out.below hb)
  replace Q1 := Lib.hid (Q1.out.below hb)
  replace P2 := Lib.hid (P2.out.below hb)
  replace Q2 := Lib.hid (Q2.out.below hb)
  have hw10_ := bt hw9_ hb
  clear hb hw9_ 
  have HTX := Lib.hid ht
  have HTS : Hid (t.size ≤ 60000) := Lib.hid (qtxt_size ht HX.out HY.out)
  clear ht
  obtain ⟨qx, qy, qe, hpq, hrd⟩ := pq_of t
  obtain ⟨rfl, rfl, rfl⟩ := HTX.out.pq HCN.out HX.out HY.out hpq
  have HRT := Lib.hid hrd
  clear hpq hrd
  go_wp2_with fail
  refine ((QParse_any _ t HTS.out (HTn.out.below hw10_)).mono fun e w' h => HRT.out _ e w' h).mono ?_
  rintro e w9 ⟨n4, A4, c4, l4, m4, B4, d4, k4, rfl, i4, j4, hb⟩
  replace x0 := x0.below hb
  replace xb := xb.below hb
  replace xc := xc.below hb
  replace P1 := Lib.hid (P1.out.below hb)
  replace Q1 := Lib.hid (Q1.out.below hb)
  replace P2 := Lib.hid (P2.out.below hb)
  replace Q2 := Lib.hid (Q2.out.below hb)
  have hw11_ := bt hw10_ hb
  clear hb hw10_ 
  have P4 := Lib.hid i4
  have Q4 := Lib.hid j4
  clear i4 j4
  go_upto_region 9 with fail
  obtain ⟨w10, hw⟩ : ∃ W, W = w9.alloc (.cells #[.bool n4, .slice A4 l4.length c4, .bool m4, .slice B4 k4.length d4] 35) := ⟨_, rfl⟩
  have xe : Box4 w10 w9.heap.size (.bool n4) (.slice A4 l4.length c4) (.bool m4) (.slice B4 k4.length d4) := by rw [hw]; exact Box4.new _ _ _ _ _
  have hb : Below w9.heap.size w9 w10 := by rw [hw]; exact ba (b0 _) _
  obtain ⟨xep, hxep⟩ : ∃ p, p = w9.heap.size := ⟨_, rfl⟩
  rw [← hxep] at xe ⊢
  rw [← hw]
  clear hw hxep
  replace x0 := x0.below hb
  replace xb := xb.below hb
  replace xc := xc.below hb
  replace P1 := Lib.hid (P1.out.below hb)
  replace Q1 := Lib.hid (Q1.out.below hb)
  replace P2 := Lib.hid (P2.out.below hb)
  replace Q2 := Lib.hid (Q2.out.below hb)
  replace P4 := Lib.hid (P4.out.below hb)
  replace Q4 := Lib.hid (Q4.out.below hb)
  have hw12_ := bt hw11_ hb
  clear hb hw11_ 
  have c_x0_0 := x0.cell0
  have c_x0_1 := x0.cell1
  have c_x0_2 := x0.cell2
  have c_x0_3 := x0.cell3
  have c_xe_0 := xe.cell0
  have c_xe_1 := xe.cell1
  have c_xe_2 := xe.cell2
  have c_xe_3 := xe.cell3
  go_wp2_with fail
  refine (sane2 _ (HTn.out.below hw12_)).mono ?_
  rintro e1 wz ⟨rfl, hb⟩
  clear c_x0_0 c_x0_1 c_x0_2 c_x0_3 c_xe_0 c_xe_1 c_xe_2 c_xe_3
  replace x0 := x0.below hb
  replace xb := xb.below hb
  replace xc := xc.below hb
  replace xe := xe.below hb
  replace P1 := Lib.hid (P1.out.below hb)
  replace Q1 := Lib.hid (Q1.out.below hb)
  replace P2 := Lib.hid (P2.out.below hb)
  replace Q2 := Lib.hid (Q2.out.below hb)
  replace P4 := Lib.hid (P4.out.below hb)
  replace Q4 := Lib.hid (Q4.out.below hb)
  have hw13_ := bt hw12_ hb
  clear hb hw12_ 
  have c_x0_0 := x0.cell0
  have c_x0_1 := x0.cell1
  have c_x0_2 := x0.cell2
  have c_x0_3 := x0.cell3
  have c_xe_0 := xe.cell0
  have c_xe_1 := xe.cell1
  have c_xe_2 := xe.cell2
  have c_xe_3 := xe.cell3
  go_wp2_with fail
  refine (RQPrint_any (I1.out.below hw13_) (I2.out.below hw13_)).mono ?_
  rintro e w11 ⟨t2, rfl, ht2, hb⟩
  clear c_x0_0 c_x0_1 c_x0_2 c_x0_3 c_xe_0 c_xe_1 c_xe_2 c_xe_3
  replace x0 := x0.below hb
  replace xb := xb.below hb
  replace xc := xc.below hb
  replace xe := xe.below hb
  replace P1 := Lib.hid (P1.out.below hb)
  replace Q1 := Lib.hid (Q1.out.below hb)
  replace P2 := Lib.hid (P2.out.below hb)
  replace Q2 := Lib.hid (Q2.out.below hb)
  replace P4 := Lib.hid (P4.out.below hb)
  replace Q4 := Lib.hid (Q4.out.below hb)
  have hw14_ := bt hw13_ hb
  clear hb hw13_ 
  obtain rfl : t2 = t := ht2.uniq HTX.out
  clear ht2
  have c_x0_0 := x0.cell0
  have c_x0_1 := x0.cell1
  have c_x0_2 := x0.cell2
  have c_x0_3 := x0.cell3
  have c_xe_0 := xe.cell0
  have c_xe_1 := xe.cell1
  have c_xe_2 := xe.cell2
  have c_xe_3 := xe.cell3
  go_wp2_with fail
  refine (RQSame_iv P4.out Q4.out (I1.out.below hw14_) (I2.out.below hw14_)).mono ?_
  rintro e w12 ⟨rfl, hb⟩
  clear c_x0_0 c_x0_1 c_x0_2 c_x0_3 c_xe_0 c_xe_1 c_xe_2 c_xe_3
  replace x0 := x0.below hb
  replace xb := xb.below hb
  replace xc := xc.below hb
  replace xe := xe.below hb
  replace P1 := Lib.hid (P1.out.below hb)
  replace Q1 := Lib.hid (Q1.out.below hb)
  replace P2 := Lib.hid (P2.out.below hb)
  replace Q2 := Lib.hid (Q2.out.below hb)
  replace P4 := Lib.hid (P4.out.below hb)
  replace Q4 := Lib.hid (Q4.out.below hb)
  have hw15_ := bt hw14_ hb
  clear hb hw14_ 
  go_wp2_with fail
  go_ret
  exact ⟨rfl, hw15_⟩
theorem RatTexts_walk (w : World) {n m : Bool} {A B : Option Addr} {c d : Nat} {l k : List Nat} (s : ByteArray) (hl : WS w A l) (hk : WS w B k) (hcd : l.length ≤ c ∧ k.length ≤ d) (hT : Tens w) :
    Calls Tryz.prog 9 #[.string s, .agg #[.bool n, .slice A l.length c, .bool m, .slice B k.length d]] w fun e w' => e = .returned (.bool true) ∧ Below w.heap.size w w' := by
  rcases Nat.lt_or_ge 60000 s.size with h1 | h1
  · exact RatTexts_big s hl hk hcd.1 hcd.2 hT h1
  · by_cases h2 : 2000 < s.size ∧ s.size ≤ 20000
    · exact RatTexts_mid s hl hk hcd.1 hcd.2 hT h2.1 h2.2
    · rcases Bool.eq_false_or_eq_true (decide (l.length ≤ 40) && decide (k.length ≤ 40) && isQ n l m k) with hb | hb
      · exact RatTexts_main s hl hk hcd.1 hcd.2 hT hb (by omega)
      · rcases Nat.lt_or_ge 2000 s.size with h3 | h3
        · exact RatTexts_no2 s hl hk hcd.1 hcd.2 hT (by omega) h1 hb
        · exact RatTexts_no1 s hl hk hcd.1 hcd.2 hT h3 hb
end Go.Proofs.YtgljdfblgpdaaaaGreatDoor
