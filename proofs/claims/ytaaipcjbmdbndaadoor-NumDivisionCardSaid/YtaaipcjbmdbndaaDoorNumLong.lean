/- divideLong. -/
import Derived.Test.YtaaipcjbmdbndaaDoorNumRedu
import Derived.Test.YtaaipcjbmdbndaaDoorNumShift
import Derived.Test.YtaaipcjbmdbndaaDoorNumPow
namespace Go.Proofs.YtaaipcjbmdbndaaDoor
open Go.RowKit

theorem top_ge {l : List Nat} {m c : Nat} (hl : ∀ x ∈ l, x < 4294967296) (h : l.length = m + 1) (hc : c * BB m ≤ val l) : c ≤ gd l m := by
  have h1 := val_split l m (by omega)
  rw [val_drop_at l (by omega), List.drop_eq_nil_of_le (by omega)] at h1
  have h2 := val_lt (words_take hl m)
  rw [List.length_take, Nat.min_eq_left (by omega)] at h2
  have h3 : val [] = 0 := rfl
  rw [h3, Nat.mul_zero, Nat.add_zero] at h1
  have h4 : BB m * c < BB m * (gd l m + 1) := by rw [Nat.mul_add, Nat.mul_comm (BB m) c]; omega
  exact Nat.le_of_lt_succ (Nat.lt_of_mul_lt_mul_left h4)
/-- A step of the long division: what is divided. -/
theorem long_pre {L : List Nat} {i n D : Nat} (hL : ∀ x ∈ L, x < 4294967296) (hn : i + n + 1 ≤ L.length) (hD : D < BB n) (h : val (L.drop (i + 1)) < D) :
    val (seg L i (n + 1)) < 4294967296 * D ∧ val (L.drop i) = val (seg L i (n + 1)) ∧ val (L.drop (i + (n + 1))) = 0 := by
  have h1 := val_split (L.drop (i + 1)) n (by rw [List.length_drop]; omega)
  rw [List.drop_drop, show i + 1 + n = i + (n + 1) by omega] at h1
  have h0 : val (L.drop (i + (n + 1))) = 0 := by
    rcases Nat.eq_zero_or_pos (val (L.drop (i + (n + 1)))) with h0 | h0
    · exact h0
    · have := Nat.le_mul_of_pos_right (BB n) h0
      omega
  have h2 := val_split (L.drop i) (n + 1) (by rw [List.length_drop]; omega)
  rw [List.drop_drop, h0, Nat.mul_zero, Nat.add_zero] at h2
  have h3 := val_drop_at L (j := i) (by omega)
  have hx := getD_lt hL i
  refine ⟨?_, h2, h0⟩
  have h4 : val (seg L i (n + 1)) = gd L i + 4294967296 * val (L.drop (i + 1)) := by rw [← h3, h2]; rfl
  rw [h4]
  omega
theorem long_step {L S : List Nat} {i n D N Q : Nat} (hL : ∀ x ∈ L, x < 4294967296) (hn : i + n + 1 ≤ L.length) (hS : S.length = n + 1) (hD : D < BB n) (h : val (L.drop (i + 1)) < D) (hN : val L + BB (i + 1) * (Q * D) = N) (hv : val S = val (seg L i (n + 1)) % D) :
    val ((spl L i S).drop i) < D ∧ val (spl L i S) + BB i * ((val (seg L i (n + 1)) / D + 4294967296 * Q) * D) = N := by
  obtain ⟨h1, h2, h3⟩ := long_pre hL hn hD h
  have hd : (spl L i S).drop i = S ++ L.drop (i + (n + 1)) := by
    unfold spl
    rw [List.append_assoc, List.drop_append_of_le_length (by rw [List.length_take]; omega), List.drop_eq_nil_of_le (by rw [List.length_take]; omega), hS]
    rfl
  have ht : (spl L i S).take i = L.take i := by
    unfold spl
    rw [List.append_assoc, List.take_append_of_le_length (by rw [List.length_take]; omega), List.take_of_length_le (by rw [List.length_take]; omega)]
  have hvd : val ((spl L i S).drop i) = val S := by rw [hd, val_append, h3, Nat.mul_zero, Nat.add_zero]
  have hl : (spl L i S).length = L.length := spl_length (by omega)
  have e1 := val_split (spl L i S) i (by omega)
  have e2 := val_split L i (by omega)
  rw [hvd, ht] at e1
  rw [h2] at e2
  have hD0 : 0 < D := by omega
  refine ⟨by rw [hvd, hv]; exact Nat.mod_lt _ hD0, ?_⟩
  rw [e1, ← hN, e2, hv, BB_succ]
  have h4 := Nat.div_add_mod (val (seg L i (n + 1))) D
  generalize val (seg L i (n + 1)) / D = q at *
  generalize val (seg L i (n + 1)) % D = r at *
  rw [← h4, Nat.add_mul, Nat.mul_add (BB i) (D * q), Nat.mul_add (BB i) (q * D), Nat.mul_comm D q, Nat.mul_assoc (BB i), Nat.mul_assoc 4294967296 Q]
  omega

theorem norm_top {x : Nat} (h0 : x ≠ 0) (h : x < 4294967296) : ∃ k : Nat, k < 32 ∧ (32 - (Lib.bitLen x : Int)) = (k : Int) ∧ 2147483648 ≤ x * 2 ^ k ∧ (x + 1) * 2 ^ k ≤ 4294967296 := by
  have h1 := bitLen_spec x (by omega)
  have h2 := Lib.bitLen_le x 32 (by omega) h
  obtain ⟨b, hb⟩ : ∃ b, Lib.bitLen x = b + 1 := by
    rcases Nat.eq_zero_or_pos (Lib.bitLen x) with h3 | h3
    · rw [h3] at h1; simp at h1; omega
    · exact ⟨Lib.bitLen x - 1, by omega⟩
  have h3 : 2 ^ b ≤ x := by
    rcases Nat.lt_or_ge x (2 ^ b) with h4 | h4
    · have := Lib.bitLen_le x b (by omega) h4; omega
    · exact h4
  rw [hb] at h1 h2 ⊢
  refine ⟨31 - b, by omega, by omega, ?_, ?_⟩
  · have h5 := Nat.mul_le_mul_right (2 ^ (31 - b)) h3
    rw [← Nat.pow_add, show b + (31 - b) = 31 by omega] at h5
    exact h5
  · have h5 := Nat.mul_le_mul_right (2 ^ (31 - b)) h1
    rw [← Nat.pow_add, show b + 1 + (31 - b) = 32 by omega] at h5
    exact h5
theorem norm_val {k : List Nat} {m s : Nat} (hw : ∀ x ∈ k, x < 4294967296) (hk : k.length = m + 2) (h1 : 2147483648 ≤ gd k (m + 1) * 2 ^ s) (h2 : (gd k (m + 1) + 1) * 2 ^ s ≤ 4294967296) :
    2147483648 * BB (m + 1) ≤ val k * 2 ^ s ∧ val k * 2 ^ s < BB (m + 2) := by
  have hv := val_take k (k := m + 1) (by omega)
  rw [List.take_of_length_le (by omega)] at hv
  have hlt := val_lt (words_take hw (m + 1))
  rw [List.length_take, Nat.min_eq_left (by omega)] at hlt
  rw [hv, Nat.add_mul, show m + 2 = m + 1 + 1 from rfl, BB_succ (m + 1), Nat.mul_assoc]
  have h3 := Nat.mul_le_mul_left (BB (m + 1)) h1
  have h4 := Nat.mul_le_mul_left (BB (m + 1)) h2
  have h5 : (val (k.take (m + 1)) + 1) * 2 ^ s ≤ BB (m + 1) * 2 ^ s := Nat.mul_le_mul_right _ hlt
  have h6 := Nat.two_pow_pos s
  rw [Nat.add_mul, Nat.one_mul] at h5
  constructor
  · rw [Nat.mul_comm 2147483648]; omega
  · rw [Nat.add_mul, Nat.one_mul, Nat.mul_add] at h4; omega

/-- 'trim' turns nothing. -/
theorem trim_keep (a w : World) (g n c : Nat) (L : List Nat) (N : Nat) (hm : n ≤ 4000000) (hnc : n ≤ c) (hg : a.heap.size ≤ g) (hb : Blk w g L) (hn : n ≤ L.length) (hv : val (L.take n) = N) (hw : Below a.heap.size a w) :
    Calls Tryd.prog 69 #[.slice (some ⟨g, 0, none⟩) n c] w fun e w' => Res a N e w' ∧ w = w' := by
  have hws := hb.ws (o := 0) (n := n) (by omega)
  rw [List.drop_zero] at hws
  refine (trim_any (some ⟨g, 0, none⟩) n c (L.take n) w (by rw [List.length_take]; omega) hm hnc hws).mono ?_
  rintro e w' ⟨⟨k, hk, rfl, ht, hz⟩, rfl⟩
  have hl : ((L.take n).take k).length = k := by rw [List.length_take, List.length_take]; omega
  refine ⟨⟨some ⟨g, 0, none⟩, c, (L.take n).take k, by rw [hl], by omega, fun _ => ⟨g, L, rfl, hg, hb, ?_, by omega⟩, fun h0 => ?_, by rw [val_take_top _ _ hz, hv], hw⟩, rfl⟩
  · rw [hl, List.take_take, Nat.min_eq_left hk]
  · rw [hl] at h0 ⊢
    rw [gd_take (by omega)]
    exact ht h0

set_option maxRecDepth 100000 in
set_option maxHeartbeats 1000000 in
theorem divideLong_any (a w : World) (A B : Option Addr) (c d m : Nat) (l k : List Nat) (hk : k.length = m + 2) (hl2 : l.length ≤ 400000) (hle : m + 2 ≤ l.length) (tk : Top k) (hl : WS w A l) (hkw : WS w B k) (hw : Below a.heap.size a w) :
    Calls Tryd.prog 75 #[.slice A l.length c, .slice B (m + 2) d] w (DRes a (val l / val k) (val l % val k)) := by
  have htop : gd k (m + 1) ≠ 0 := by have := tk (by omega); rwa [hk] at this
  obtain ⟨s, hs32, hsi, hs1, hs2⟩ := norm_top htop (hkw.lt _)
  obtain ⟨hD1, hD2⟩ := norm_val hkw.1 hk hs1 hs2
  obtain ⟨D, hD⟩ : ∃ D, D = val k * 2 ^ s := ⟨_, rfl⟩
  rw [← hD] at hD1 hD2
  have hDpos : 0 < D := by have := BB_pos (m + 1); omega
  have hkw' := hkw
  obtain ⟨bk, ok, rfl, hbk, hck⟩ := hkw.at_ (by omega)
  have hc1 := hck (m + 1) (by omega)
  have hx := hkw'.lt (m + 1)
  have hsh := fun W => shiftUp_any W W (some ⟨bk, ok, none⟩) d k s (by omega) (by omega)
  obtain ⟨cnt, hcnt⟩ : ∃ n, n = l.length - (m + 2) + 1 := ⟨_, rfl⟩
  have hcnti : (l.length : Int) - ((m : Int) + 2) + 1 = (cnt : Int) := by omega
  have hmk1 := fun W => run_mk ((l.length : Int) + 1) (l.length + 1) (by simp) (by omega) W
  have hmk2 := fun W => run_mk (cnt : Int) cnt rfl (by omega) W
  rw [hk] at hsh
  have HSI := Lib.hid hsi
  have HSH := Lib.hid hsh
  have HD := Lib.hid hD
  have HK := Lib.hid hk
  have HCN := Lib.hid hcnt
  have hm1 : (m : Int) + 1 < (m : Int) + 2 := by omega
  have hm0 : (0 : Int) ≤ (m : Int) + 1 := by omega
  have hmt : ((m : Int) + 1).toNat = m + 1 := by omega
  generalize gd k (m + 1) = x at *
  clear hsi hsh hD hk hcnt hck htop hs1 hs2
  go_enter Tryd.func75, Tryd.ntmps75
  go_wp2_with fail
  refine (Tryd.bits_LeadingZeros32 (x : Int) _ (by omega) (by omega)).mono ?_
  rintro e w0 ⟨rfl, rfl⟩
  rw [Int.toNat_natCast, HSI.out]
  go_wp2_with fail
  refine (HSH.out _ hkw' (b0 _)).mono ?_
  rintro e w1 ⟨A1, c1, ld, rfl, hc1', ho1, ht1, hv1, hb1⟩
  have hv1' := hv1.trans HD.out.symm
  have hld : ld.length = m + 2 := by
    have h1 := top_len (m := m + 2) ht1 (by rw [hv1']; exact hD2)
    have h2 := val_lt ho1.ws.1
    rw [hv1'] at h2
    rcases Nat.lt_or_ge ld.length (m + 2) with h3 | h3
    · have := BB_mono (show ld.length ≤ m + 1 by omega); omega
    · omega
  have htopd : 2147483648 ≤ gd ld (m + 1) := top_ge ho1.ws.1 (by omega) (by rw [hv1']; exact hD1)
  obtain ⟨gd1, Ld, rfl, hgd, hbd, htd, hLd⟩ := ho1 (by intro h; rw [h] at hld; simp at hld)
  have HV1 := Lib.hid hv1'
  have HLD := Lib.hid hld
  have HTD := Lib.hid htd
  rw [hld]
  have hc1'' : m + 2 ≤ c1 := by omega
  clear hv1 hv1' hld htd ho1
  go_wp2_with fail
  obtain ⟨W2, hW2⟩ : ∃ W, W = w1.alloc (.cells (words (zer (l.length + 1))) 58) := ⟨_, rfl⟩
  have hb12 : Below w1.heap.size w1 W2 := by rw [hW2]; exact ba (b0 _) _
  have hz : Blk W2 w1.heap.size (zer (l.length + 1)) := by rw [hW2]; exact Blk.new w1 _ (zer_lt _)
  have hs12 : W2.heap.size = w1.heap.size + 1 := by rw [hW2]; simp
  rw [← hW2]
  clear hW2
  have hl2' : WS W2 A l := (hl.below hb1).below hb12
  have hin := shiftInto_any W2 w1.heap.size (l.length + 1) (l.length + 1) [] A c l s hs32 (Nat.le_refl _) (by omega) (by simp) hz hl2' ((hl.below hb1).off (Nat.le_refl _))
  simp only [List.length_nil, List.nil_append] at hin
  refine hin.mono ?_
  rintro e w3 ⟨rfl, S0, r0, hS0, hv0, hb3, hO3⟩
  have hL0 : (S0 ++ [r0]).length = l.length + 1 := by simp [hS0]
  have hN0 : val (S0 ++ [r0]) = val l * 2 ^ s := by rw [val_snoc, hS0]; exact hv0
  obtain ⟨L0, hL0e⟩ : ∃ L, L = S0 ++ [r0] := ⟨_, rfl⟩
  rw [← hL0e] at hL0 hN0 hb3
  have HL0 := Lib.hid hL0
  have HN0 := Lib.hid hN0
  clear hL0 hN0 hv0 hS0 hL0e hin
  have hbd3 : Blk w3 gd1 Ld := (hbd.below hb12).only hO3 (by have := hbd.lt; omega)
  go_wp2_with fail
  obtain ⟨W4, hW4⟩ : ∃ W, W = w3.alloc (.cells (words (zer cnt)) 58) := ⟨_, rfl⟩
  have hb34 : Below w3.heap.size w3 W4 := by rw [hW4]; exact ba (b0 _) _
  have hq4 : Blk W4 w3.heap.size (zer cnt) := by rw [hW4]; exact Blk.new w3 _ (zer_lt _)
  rw [← hW4]
  clear hW4
  have hr4 : Blk W4 w1.heap.size L0 := hb3.below hb34
  have hd4 : Blk W4 gd1 Ld := hbd3.below hb34
  have hw4 : Below w0.heap.size w0 W4 := bt (bo (bt hb1 hb12) hO3 hb1.size) hb34
  obtain ⟨gq, hgq⟩ : ∃ g, g = w3.heap.size := ⟨_, rfl⟩
  obtain ⟨gr, hgr⟩ : ∃ g, g = w1.heap.size := ⟨_, rfl⟩
  have hne1 : gr ≠ gq := by have := hb3.lt; omega
  have hne2 : gd1 ≠ gq := by have := hbd3.lt; omega
  have hne3 : gd1 ≠ gr := by have := hbd.lt; omega
  have hgq0 : w0.heap.size ≤ gq := by have := hb1.size; have := hb3.lt; omega
  have hgr0 : w0.heap.size ≤ gr := by have := hb1.size; omega
  rw [← hgq] at hq4 ⊢
  rw [← hgr] at hr4 ⊢
  clear hgq hgr hb3 hbd3 hbd hb34 hb12 hs12 hz hO3 hl2' hmk1 hmk2
  go_loopw [9] (fun iv wr => ∃ (j : Nat) (L Q : List Nat), iv = .int .i64 ((j : Int) - 1) ∧ j ≤ cnt ∧ L.length = l.length + 1 ∧ Q.length = cnt - j ∧ Hid (val (L.drop j) < D ∧ val L + BB j * (val Q * D) = val l * 2 ^ s) ∧ Blk wr gr L ∧ Blk wr gq (zer j ++ Q) ∧ Blk wr gd1 Ld ∧ Below w0.heap.size w0 wr) (fun iv _ => (intOf iv + 1).toNat)
  case atStart =>
    refine ⟨cnt, L0, [], rfl, Nat.le_refl _, HL0.out, by simp, ?_, hr4, by simpa using hq4, hd4, hw4⟩
    have hlt : val L0 / BB cnt < D := by
      rw [HN0.out]
      refine Nat.div_lt_of_lt_mul ?_
      have h1 := val_lt hl.1
      have h2 : BB l.length = BB cnt * BB (m + 1) := by rw [← BB_add]; congr 1; have := HCN.out; omega
      have h3 : val l * 2 ^ s < BB cnt * BB (m + 1) * 2 ^ s := Nat.mul_lt_mul_of_pos_right (by rw [← h2]; exact h1) (Nat.two_pow_pos s)
      have h4 : 2 ^ s ≤ 2147483648 := by
        have := Nat.pow_le_pow_right (show 0 < 2 by decide) (show s ≤ 31 by omega)
        exact this
      have h5 : BB (m + 1) * 2 ^ s ≤ D := Nat.le_trans (Nat.mul_le_mul_left _ h4) (by rw [Nat.mul_comm]; exact hD1)
      have h6 := Nat.mul_le_mul_left (BB cnt) h5
      rw [← Nat.mul_assoc] at h6
      omega
    refine ⟨?_, by rw [show val [] = 0 from rfl, Nat.zero_mul, Nat.mul_zero, Nat.add_zero]; exact HN0.out⟩
    rw [← val_div_BB L0 hr4.1 cnt (by rw [HL0.out]; have := HCN.out; omega)]
    exact hlt
  case round =>
    obtain ⟨j, L, Q, rfl, hj, hL, hQ, hI, hbr, hbq, hbd, hb⟩ := hrel
    have HQ := Lib.hid hQ
    have HL := Lib.hid hL
    clear hQ hL
    rcases Nat.eq_zero_or_pos j with rfl | h0
    · have hi0 : val L = val l % val k * 2 ^ s ∧ val Q = val l / val k := by
        obtain ⟨h1, h2⟩ := hI.out
        rw [List.drop_zero] at h1
        rw [BB_zero, Nat.one_mul] at h2
        have h3 := Nat.div_add_mod (val l * 2 ^ s) D
        have h4 : val Q = val l * 2 ^ s / D ∧ val L = val l * 2 ^ s % D := by
          have h5 : val L % D = val L := Nat.mod_eq_of_lt h1
          rw [← h2, Nat.add_mul_div_right _ _ hDpos, Nat.add_mul_mod_self_right, h5, Nat.div_eq_of_lt h1, Nat.zero_add]
          exact ⟨rfl, rfl⟩
        rw [h4.1, h4.2, HD.out]
        exact ⟨Nat.mul_mod_mul_right _ _ _, Nat.mul_div_mul_right _ _ (Nat.two_pow_pos s)⟩
      have HI0 := Lib.hid hi0
      have hQl : (zer 0 ++ Q).length = cnt := by simp [zer_length, HQ.out]
      have HQL := Lib.hid hQl
      clear hi0 hQl
      go_wp2_with fail
      refine (trim_keep w0 wr gq cnt cnt (zer 0 ++ Q) (val l / val k) (by have := HCN.out; omega) (Nat.le_refl _) hgq0 hbq (by rw [HQL.out]; exact Nat.le_refl _) (by rw [List.take_of_length_le (by rw [HQL.out]; exact Nat.le_refl _)]; exact HI0.out.2) hb).mono ?_
      rintro e w5 ⟨⟨A5, c5, l5, rfl, hc5, ho5, ht5, hv5, hb5⟩, rfl⟩
      have HV5 := Lib.hid hv5
      have hwr : WS wr (some ⟨gr, 0, none⟩) L := by
        have h := hbr.ws (o := 0) (n := L.length) (by omega)
        rwa [List.drop_zero, List.take_length] at h
      have hsd := shiftDown_any wr wr (some ⟨gr, 0, none⟩) (l.length + 1) L s (by rw [HL.out]; omega) (by omega) hwr (b0 _)
      rw [HL.out, HI0.out.1, Nat.mul_div_cancel _ (Nat.two_pow_pos s)] at hsd
      have HSD := Lib.hid hsd
      clear hv5 hsd
      go_wp2_with fail
      refine HSD.out.mono ?_
      rintro e w6 ⟨A6, c6, l6, rfl, hc6, ho6, ht6, hv6, hb6⟩
      have HV6 := Lib.hid hv6
      clear hv6
      go_wp2_with fail
      go_ret2
      exact ⟨A5, c5, l5, A6, c6, l6, rfl, hc5, (ho5.below hb6).mono hw.size, ht5, HV5.out, hc6, ho6.mono (Nat.le_trans hw.size hb.size), ht6, HV6.out, bt hw (bt hb hb6)⟩
    · obtain ⟨i, rfl⟩ : ∃ i, j = i + 1 := ⟨j - 1, by omega⟩
      have hi1 : ((i + 1 : Nat) : Int) - 1 = (i : Int) := by omega
      have hk1 : (i : Int) ≤ (i : Int) + ((m : Int) + 2) + 1 := by omega
      have hk2 : (i : Int) + ((m : Int) + 2) + 1 ≤ (l.length : Int) + 1 := by have := HCN.out; omega
      have hk3 : ((i : Int) + ((m : Int) + 2) + 1).toNat = i + (m + 3) := by omega
      have hic : (i : Int) < (cnt : Int) := by omega
      rw [hi1]
      clear hi1
      have hne : ld ≠ [] := by intro h; have := HLD.out; rw [h] at this; simp at this
      have hwd : WS wr (some ⟨gd1, 0, none⟩) ld := by
        have h := hbd.ws (o := 0) (n := ld.length) (by omega)
        rwa [List.drop_zero, HTD.out] at h
      have hpre := long_pre (i := i) (n := m + 2) (D := D) hbr.1 (by rw [HL.out]; have := HCN.out; omega) hD2 hI.out.1
      have hred := reduce_any gr i (l.length + 1 - i) m L (some ⟨gd1, 0, none⟩) c1 ld wr HLD.out (by omega) (by rw [HL.out]; have := HCN.out; omega) htopd (by rw [HV1.out]; exact hpre.1) hbr hwd (fun _ b o e => by injection e with e; injection e with e1 e2; rw [← e1]; exact hne3)
      have HRED := Lib.hid hred
      clear hred hpre hne
      go_wp2_with fail
      refine HRED.out.mono ?_
      rintro e w5 ⟨S, rfl, hS, hSw, hv, hb5, hO5⟩
      rw [HLD.out] at hS hv ⊢
      rw [HV1.out] at hv ⊢
      have hst := long_step (S := S) (i := i) (n := m + 2) (D := D) (Q := val Q) (N := val l * 2 ^ s) hbr.1 (by rw [HL.out]; have := HCN.out; omega) hS hD2 hI.out.1 hI.out.2 hv
      have hq32 : val (seg L i (m + 2 + 1)) / D < 4294967296 := by
        have h := (long_pre (i := i) (n := m + 2) (D := D) hbr.1 (by rw [HL.out]; have := HCN.out; omega) hD2 hI.out.1).1
        exact Nat.div_lt_of_lt_mul (by rw [Nat.mul_comm]; exact h)
      obtain ⟨q, hq⟩ : ∃ q, q = val (seg L i (m + 2 + 1)) / D := ⟨_, rfl⟩
      rw [← hq] at hst hq32 ⊢
      have HST := Lib.hid hst
      have HS := Lib.hid hS
      clear hst hv hq hS
      have hbq5 := hbq.only hO5 (fun e => hne1 e.symm)
      have hbd5 := hbd.only hO5 hne3
      have hql : (zer (i + 1) ++ Q).length = cnt := by simp [zer_length, HQ.out]; omega
      have hcq := hbq5.cell (i := i) (by omega)
      have hfq := hbq5.free i
      have hset := hbq5.set_ (i := i) hq32
      have HSET := Lib.hid hset
      have HQL := Lib.hid hql
      clear hset hql
      generalize gd (zer (i + 1) ++ Q) i = z at *
      go_wp2_with fail
      go_roundw
      case rel =>
        refine ⟨i, spl L i S, q :: Q, rfl, by omega, by rw [spl_length (by rw [HL.out, HS.out]; have := HCN.out; omega)]; exact HL.out, by simp [HQ.out]; omega, HST.out, hb5.only ((only_refl gq w5).set_ (.inl rfl) _) hne1, ?_, hbd5.only ((only_refl gq w5).set_ (.inl rfl) _) hne2, bs (bo hb hO5 hgr0) hgq0 _⟩
        have h := HSET.out
        have e : (zer (i + 1) ++ Q).set i q = zer i ++ (q :: Q) := by
          unfold zer
          rw [List.replicate_succ', List.append_assoc]
          have := set_mid (L := List.replicate (i + 1) 0) (S := []) (R := Q) (j := i) (x := q) (by simp)
          simp at this
          simp [this]
        rw [e] at h
        exact h
      case measure => simp [intOf]
end Go.Proofs.YtaaipcjbmdbndaaDoor
