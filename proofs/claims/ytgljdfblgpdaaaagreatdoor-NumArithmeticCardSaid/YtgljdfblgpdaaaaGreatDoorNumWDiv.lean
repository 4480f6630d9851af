/- The specification's divWords. -/
import Derived.Test.YtgljdfblgpdaaaaGreatDoorNumWDivB
set_option linter.unusedSimpArgs false
set_option linter.unusedVariables false
namespace Go.Proofs.YtgljdfblgpdaaaaGreatDoor
open Go.RowKit Go.Shelf

theorem dv_norm {lb ld : List Nat} {n s : Nat} (hw : ∀ x ∈ lb, x < 4294967296) (tk : Top lb) (hwd : ∀ x ∈ ld, x < 4294967296) (td : Top ld) (hn : lb.length = n) (hn1 : 1 ≤ n) (hs : bl lb + s = 32 * n) (hv : val ld = val lb * 2 ^ s) :
    ld.length = n ∧ BB (n - 1) * gd ld (n - 1) ≤ val ld ∧ val ld < BB n ∧ 0 < gd ld (n - 1) ∧ BB (n - 1) ≤ val ld := by
  obtain ⟨h1, h2, h3, h4⟩ := bl_bound hw tk (by omega)
  have hhi : val ld < BB n := by
    have h5 := Nat.mul_lt_mul_of_pos_right h1 (Nat.two_pow_pos s)
    rw [← Nat.pow_add, hs, ← bb_pow2, ← hv] at h5
    exact h5
  have hlo : BB (n - 1) ≤ val ld := by
    have h5 := Nat.mul_le_mul_right (2 ^ s) h2
    rw [← Nat.pow_add, ← hv] at h5
    refine Nat.le_trans ?_ h5
    rw [bb_pow2]
    exact Nat.pow_le_pow_right (by decide) (by omega)
  have hl1 : ld.length ≤ n := top_len td hhi
  have hl2 : ld.length = n := by
    rcases Nat.lt_or_ge ld.length n with h | h
    · have h5 := val_lt hwd
      have h6 : BB ld.length ≤ BB (n - 1) := Nat.pow_le_pow_right (by decide) (by omega)
      omega
    · omega
  have h7 := val_take ld (k := n - 1) (by omega)
  rw [show n - 1 + 1 = ld.length by omega, List.take_length] at h7
  have h8 := td (by omega)
  rw [hl2] at h8
  exact ⟨hl2, by omega, hhi, by omega, hlo⟩
theorem ownR_of_blk {base : Nat} {W : World} {g : Nat} {L : List Nat} {k : Nat} (hb : Blk W g L) (hg : base ≤ g) (hk : k ≤ L.length) (hL : L.length ≤ 4000000) : OwnR base W (.slice (some ⟨g, 0, none⟩) k L.length) (L.take k) := by
  have e : (L.take k).length = k := by rw [List.length_take]; omega
  refine ⟨?_, words_take hb.1 k⟩
  rw [e]
  refine ⟨by rw [wv_length, e, Nat.mul_one], .inr ⟨g, L.length, words L, rfl, hg, hb.2, hk, by simp only [maxLen]; omega, by simp [words], ?_⟩⟩
  simp [words, wv, List.map_take]
theorem spl_step {L S T : List Nat} {k i q : Nat} (hS : S.length = i) (hi : i < T.length) (hk : k + T.length ≤ L.length) : (spl L k (S ++ T.drop i)).set (k + i) q = spl L k ((S ++ [q]) ++ T.drop (i + 1)) := by
  have e0 : (S ++ T.drop i).length = T.length := by rw [List.length_append, List.length_drop]; omega
  have e3 : ((S ++ [q]) ++ T.drop (i + 1)).length = T.length := by rw [List.length_append, List.length_append, List.length_drop, List.length_singleton]; omega
  have e2 : (L.take k).length = k := by rw [List.length_take]; omega
  have e5 : T.drop i = T[i] :: T.drop (i + 1) := List.drop_eq_getElem_cons hi
  unfold spl
  rw [e0, e3, List.append_assoc, List.append_assoc (L.take k), List.set_append_right _ _ (by omega), e2, Nat.add_sub_cancel_left, List.append_assoc S, List.set_append_right _ _ (by omega), hS, Nat.sub_self, e5]
  simp only [List.cons_append, List.set_cons_zero, List.append_assoc, List.nil_append]
theorem spl_gd {L S T : List Nat} {k i : Nat} (hS : S.length = i) (hi : i < T.length) (hk : k + T.length ≤ L.length) : gd (spl L k (S ++ T.drop i)) (k + i) = gd T i := by
  have e2 : (L.take k).length = k := by rw [List.length_take]; omega
  unfold spl gd
  simp only [List.getD_eq_getElem?_getD]
  rw [List.append_assoc, List.getElem?_append_right (by omega), e2, List.append_assoc, List.getElem?_append_right (by omega), hS, List.getElem?_append_left (by rw [List.length_drop]; omega), List.getElem?_drop]
  congr 2
  omega
/-- The guess, bounded, is not too small. -/
def GuessR (D U : Nat) (w0 : World) (gv : Value) (wx : World) : Prop := ∃ G : Nat, gv = .int .u64 (G : Int) ∧ G ≤ 4294967295 ∧ U < (G + 1) * D ∧ Below w0.heap.size w0 wx

set_option maxRecDepth 100000 in
set_option maxHeartbeats 4000000 in
theorem RdivWords_main (A B : Option Addr) (c d : Nat) (la lb : List Nat) (w : World) (hn2 : 2 ≤ lb.length) (hm : la.length ≤ 500000) (hml : lb.length ≤ 500000) (tl : Top la) (tk : Top lb) (hle : val lb ≤ val la) (hA : WS w A la) (hB : WS w B lb) :
    Calls Tryz.prog 91 #[.slice A la.length c, .slice B lb.length d] w (WsP2 w (val la / val lb) (val la % val lb)) := by
  obtain ⟨i0, hi0, hz0, hz1, hz2⟩ := info_v
  obtain ⟨n, hn⟩ : ∃ n, lb.length = n := ⟨_, rfl⟩
  have hbb := bl_bound hB.1 tk (by omega)
  obtain ⟨s, hs⟩ : ∃ s, bl lb + s = 32 * n := ⟨32 * n - bl lb, by omega⟩
  have hs32 : s < 32 := by omega
  have hsi : 32 * (n : Int) - (bl lb : Int) = (s : Int) := by omega
  have hsw : IntKind.i64.wrap (s : Int) = (s : Int) := IntWalk.i64_in _ ⟨by omega, by omega⟩
  have hnw : IntKind.i64.wrap (32 * (n : Int)) = 32 * (n : Int) := IntWalk.i64_in _ ⟨by omega, by omega⟩
  have hblN : bl lb ≤ 32 * n := by omega
  have HC : Hid (cmpN (val la) (val lb) = 0 ∨ cmpN (val la) (val lb) = 1) := Lib.hid (by unfold cmpN; rw [if_neg (by omega)]; split <;> simp)
  obtain ⟨cv, hcv⟩ : ∃ cv, cv = cmpN (val la) (val lb) := ⟨_, rfl⟩
  have hcv0 : ¬ cv < 0 := by rw [hcv]; rcases HC.out with h | h <;> omega
  have HCV := Lib.hid hcv
  have hn1 : ((n : Int) == 1) = false := beq_eq_false_iff_ne.2 (by omega)
  have HNORM : Hid (∀ ld : List Nat, (∀ x ∈ ld, x < 4294967296) → Top ld → val ld = val lb * 2 ^ s → ld.length = n ∧ BB (n - 1) * gd ld (n - 1) ≤ val ld ∧ val ld < BB n ∧ 0 < gd ld (n - 1) ∧ BB (n - 1) ≤ val ld) :=
    Lib.hid (fun ld h1 h2 h3 => dv_norm hB.1 tk h1 h2 hn (by omega) hs h3)
  have HLE := Lib.hid hle
  have HB := Lib.hid hB
  have HA := Lib.hid hA
  have HTL := Lib.hid tl
  have HTK := Lib.hid tk
  have hn2' : 2 ≤ n := by omega
  have hnl : n ≤ 500000 := by omega
  have HN := Lib.hid hn
  have HS := Lib.hid hs
  have hPpos : 0 < 2 ^ s := Nat.two_pow_pos s
  have hblb := RbitsOf_any B n d lb
  have HBL := Lib.hid (fun W h => hblb W hn (by omega) h)
  rw [hn]
  clear hcv hle hA hB tl tk hn hn2 hml hs hbb hblb HC
  go_enter Tryz.func91, Tryz.ntmps91
  go_wp2_with fail
  refine (RcmpWords_any A B la.length c n d la lb _ rfl HN.out (by omega) (by omega) HTL.out HTK.out HA.out HB.out).mono ?_
  rintro e w1 ⟨rfl, hb1⟩
  rw [← HCV.out]
  go_wp2_with fail
  refine (HBL.out w1 (HB.out.below hb1)).mono ?_
  rintro e w1' ⟨rfl, rfl⟩
  go_wp2_with fail
  refine (Rshifted_any B n d lb s w1 HN.out (by omega) (by omega) (HB.out.below hb1)).mono ?_
  rintro e w2 ⟨g2, L2, k2, rfl, hk2, hL2, hB2, hg2, ht2, hv2, hb2⟩
  obtain ⟨ld, hld⟩ : ∃ ld, ld = L2.take k2 := ⟨_, rfl⟩
  have hwd2 := hB2.ws (o := 0) (n := k2) (by omega)
  rw [List.drop_zero, ← hld] at hwd2
  rw [← hld] at ht2 hv2
  obtain ⟨hld1, hld2, hld3, hld4, hld5⟩ := HNORM.out ld hwd2.1 ht2 hv2
  have hk2n : k2 = n := by rw [← hld1, hld, List.length_take]; omega
  subst hk2n
  have hg2l := hB2.lt
  have hb12 := bt hb1 hb2
  have HWD2 := Lib.hid hwd2
  have HLD := Lib.hid (And.intro hld1 (And.intro hld2 (And.intro hld3 (And.intro hld4 hld5))))
  have HV2 := Lib.hid hv2
  clear hwd2 hld1 hld2 hld3 hld4 hld5 hv2 ht2 hld hB2 HNORM HBL
  go_wp2_with fail
  refine (Rshifted_any A la.length c la s w2 rfl (by omega) (by omega) (HA.out.below hb12)).mono ?_
  rintro e w3 ⟨g3, L3, m, rfl, hk3, hL3, hB3, hg3, ht3, hv3, hb3⟩
  have hrow3 := ownR_of_blk (base := w.heap.size) hB3 (by have := hb12.size; omega) hk3 hL3
  obtain ⟨l3, hl3⟩ : ∃ l3, l3 = L3.take m := ⟨_, rfl⟩
  rw [← hl3] at hrow3 ht3 hv3
  have hl3m : l3.length = m := by rw [hl3, List.length_take]; omega
  have hm3 : m ≤ 4000000 := by omega
  have hm500 : m ≤ 600000 := by
    have h1 : val l3 < BB (la.length + 1) := by
      have h2 := val_lt HA.out.1
      have h3 : 2 ^ s ≤ 4294967296 := Nat.pow_le_pow_right (n := 2) (by decide) (show s ≤ 32 by omega)
      rw [hv3, BB_succ]
      exact Nat.lt_of_lt_of_le (Nat.mul_lt_mul_of_pos_right h2 hPpos) (Nat.mul_le_mul_left _ h3)
    have := top_len ht3 h1
    omega
  have hnm : k2 ≤ m := by
    have h1 : val ld ≤ val l3 := by rw [HV2.out, hv3]; exact Nat.mul_le_mul_right _ HLE.out
    rcases Nat.lt_or_ge m k2 with h | h
    · have h2 := val_lt hrow3.2
      rw [hl3m] at h2
      have h3 : BB m ≤ BB (k2 - 1) := Nat.pow_le_pow_right (by decide) (by omega)
      have h4 := HLD.out.2.2.2.2
      omega
    · exact h
  have hlies := Blk.new w3 [0, 0] (by simp)
  have hws00 := hlies.ws (o := 0) (n := 2) (by simp)
  rw [List.drop_zero, show List.take 2 [0, 0] = [0, 0] from rfl] at hws00
  have hrow4 := hrow3.below (ba (b0 w3) (.cells #[.int .u32 0, .int .u32 0] 83))
  have HROW : Hid (World.ownsRow (w3.alloc (.cells #[.int .u32 0, .int .u32 0] 83)) w.heap.size 83 1 (.slice (some ⟨g3, 0, none⟩) m L3.length) m (wv l3)) := Lib.hid (by
    have := hrow4.1
    rw [hl3m] at this
    exact this)
  have HWS : Hid (WS (w3.alloc (.cells #[.int .u32 0, .int .u32 0] 83)) (some ⟨w3.heap.size, 0, none⟩) [0, 0]) := Lib.hid hws00
  have hb13 := bt hb12 hb3
  have hO2 := ba hb13 (.cells #[.int .u32 0, .int .u32 0] 83)
  have hO2s := hO2.size
  have HO2 := Lib.hid hO2
  have HWD3 := Lib.hid ((HWD2.out.below hb3).below (ba (b0 w3) (.cells #[.int .u32 0, .int .u32 0] 83)))
  have hg23 : g2 < w2.heap.size := hg2l
  have hg3l := hB3.lt
  have h23s := hb3.size
  have hwg2 : w.heap.size ≤ g2 := by have := hb1.size; omega
  have hwg3 : w.heap.size ≤ g3 := by have := hb12.size; omega
  have HV3 := Lib.hid hv3
  have HL3M := Lib.hid hl3m
  have HW3 := Lib.hid hrow3.2
  have HK := Lib.hid hnm
  obtain ⟨K0, hK0⟩ : ∃ K0, K0 = m + 2 - k2 := ⟨_, rfl⟩
  have hK0i : (m : Int) + 2 - (k2 : Int) = (K0 : Int) := by omega
  have hK0l : K0 ≤ 700000 := by omega
  have HK0 := Lib.hid hK0
  clear hv3 hl3m hnm hK0 hrow3 hrow4 hws00 hlies hO2 hb13 hB3 hl3 ht3 HCV hk2 hL2 HWD2 hb1 hb2 hb3
  go_wp2_with (at_builtin; refine wpList_append_lies _ rfl (.tmp 46) (.tmp 47) _ rfl w.heap.size 83 i0 _ 1 4 Tryz.underlying22 hi0 hz0 hz1 hz2 rfl (by omega) (.slice (some ⟨g3, 0, none⟩) m L3.length) m (wv l3) rfl HROW.out ⟨w3.heap.size, 0, none⟩ 2 2 (([0, 0] : List Nat).map fun (x : Nat) => Value.int .u32 (x : Int)) rfl (by simp) (news_ws (k := 2) (l := [0, 0]) (by simp) HWS.out) one_words (by omega) (by simp only [maxLen]; omega) (by omega) (by omega) _ rfl ?_; intro g cap w4 hown hgrow hat hlt4)
  have hO4 := HO2.out.grown hgrow hO2s (fun q hq => by simp [Value.ownBlock] at hq; omega)
  have hw4 : ∀ y ∈ l3 ++ [0, 0], y < 4294967296 := words_snoc (S := l3 ++ [0]) (x := 0) (words_snoc HW3.out (by decide)) (by decide) |> (by simpa using ·)
  have hmk := run_mk (K0 : Int) K0 rfl (by omega) w4
  have hgb : w.heap.size ≤ g ∧ g < w4.heap.size ∧ g ≠ g2 := by
    refine ⟨?_, hlt4, ?_⟩
    · rcases hat with h | h
      · simp [Value.ownBlock] at h; omega
      · rw [h, World.size_alloc]; omega
    · rcases hat with h | h
      · simp [Value.ownBlock] at h; omega
      · rw [h, World.size_alloc]; omega
  have hg2w4 : g2 < w4.heap.size := by have := hgrow.size; rw [World.size_alloc] at this; omega
  have hwd4 : WS w4 (some ⟨g2, 0, none⟩) ld := by
    refine HWD3.out.only (g := g3) ?_ (fun _ b o e => by injection e with e; injection e with e; omega)
    exact hgrow
  have hown4 : OwnR w.heap.size w4 (.slice (some ⟨g, 0, none⟩) (m + 2) cap) (l3 ++ [0, 0]) := by
    refine ⟨?_, hw4⟩
    rw [List.length_append, HL3M.out, show wv (l3 ++ [0, 0]) = wv l3 ++ ([0, 0] : List Nat).map (fun (x : Nat) => Value.int .u32 (x : Int)) from by simp [wv]]
    exact hown
  obtain ⟨N, hN⟩ : ∃ N, N = m + 2 := ⟨_, rfl⟩
  have hDI : DvI (val ld) (val la * 2 ^ s) K0 k2 N (zer K0) (l3 ++ [0, 0]) := by
    have h := DvI.start (D := val ld) (A' := val la * 2 ^ s) hn2' HK.out HL3M.out HW3.out HV3.out HLD.out.2.2.2.2
    rw [← HK0.out, ← hN] at h
    exact h
  rw [← hN] at hown4 ⊢
  have hNl : N ≤ 700000 := by omega
  have hNKi : (N : Int) - (k2 : Int) = (K0 : Int) := by omega
  have HDI := Lib.hid hDI
  have HOWN := Lib.hid hown4
  have HWD := Lib.hid hwd4
  obtain ⟨hgb1, hgb2, hgb3⟩ := hgb
  have hO4s := hO4.size
  clear hDI hown4 hwd4 hown hgrow hat hw4 hN HWS HROW HWD3 HO2 HW3 HL3M
  rw [hmk]
  go_wp2_with fail
  have hbQ0 := Blk.new w4 (zer K0) (zer_lt _)
  obtain ⟨w5, hw5⟩ : ∃ v, v = w4.alloc (.cells (words (zer K0)) 83) := ⟨_, rfl⟩
  have hb45 : Below w4.heap.size w4 w5 := by rw [hw5]; exact ba (b0 _) _
  rw [← hw5] at hbQ0 ⊢
  have HOWN5 := Lib.hid (HOWN.out.below hb45)
  have HWD5 := Lib.hid (HWD.out.below hb45)
  have HQ5 := Lib.hid hbQ0
  have hb05 := bt hO4 hb45
  obtain ⟨gq, hgq⟩ : ∃ q, q = w4.heap.size := ⟨_, rfl⟩
  rw [← hgq] at HQ5 hgb2 hg2w4 hO4s ⊢
  clear hw5 hb45 HOWN HWD hbQ0 hmk hO4 hgq
  go_loopw [9] (fun kv wr => ∃ (K : Nat) (Q L : List Nat), kv = .int .i64 ((K : Int) - 1) ∧ Hid (DvI (val ld) (val la * 2 ^ s) K k2 N Q L) ∧ OwnR w.heap.size wr (.slice (some ⟨g, 0, none⟩) N cap) L ∧ Blk wr gq Q ∧ WS wr (some ⟨g2, 0, none⟩) ld ∧ Below w.heap.size w wr) (fun kv _ => (intOf kv + 1).toNat)
  case atStart => exact ⟨K0, zer K0, l3 ++ [0, 0], rfl, HDI, HOWN5.out, HQ5.out, HWD5.out, hb05⟩
  case round =>
    obtain ⟨K, Q, L, rfl, hI, hown, hbQ, hwd, hbl⟩ := hrel
    obtain ⟨wo, rfl⟩ : ∃ x : World, x = wr := ⟨_, rfl⟩
    have HOW := Lib.hid hown
    have HBQ := Lib.hid hbQ
    have HWL := Lib.hid hwd
    have HBL := Lib.hid hbl
    have hwos := hbl.size
    clear hown hbQ hwd hbl HDI HOWN5 HQ5 HWD5
    rcases Nat.eq_zero_or_pos K with rfl | hK0
    · have hE := hI.out.eq
      have hlow := hI.out.low
      rw [List.drop_zero] at hlow
      have hD := HV2.out
      rw [hD] at hE hlow
      have hvb : 0 < val lb := val_pos HTK.out (by rw [HN.out]; omega)
      obtain ⟨hq1, hr1⟩ := dv_end hPpos hvb hE hlow
      have hql := hI.out.ql
      have hll := hI.out.ll
      have hqk : Q.length = K0 := by omega
      have hwsQ := HBQ.out.ws (o := 0) (n := K0) (by omega)
      rw [List.drop_zero, ← hqk, List.take_length] at hwsQ
      have hT1 := Rtrim_any (some ⟨gq, 0, none⟩) K0 K0 Q wo hqk (by omega) (Nat.le_refl _) hwsQ
      have hwsL : WS wo (some ⟨g, 0, none⟩) L := OwnR.ws (c := cap) (by rw [hll]; exact HOW.out)
      have hcap : N ≤ cap := by
        have h := HOW.out.cells (by omega)
        omega
      have hT2 := Rtrim_any (some ⟨g, 0, none⟩) N cap L wo hll (by omega) hcap hwsL
      have HT1 := Lib.hid hT1
      have HT2 := Lib.hid hT2
      have HWQ := Lib.hid hwsQ
      have HWR := Lib.hid hwsL
      have HQ1 := Lib.hid hq1
      have HR1 := Lib.hid hr1
      have HQK := Lib.hid hqk
      have HLL := Lib.hid hll
      clear hE hlow hD hvb hq1 hr1 hql hll hqk hwsQ hT1 hwsL hT2
      go_wp2_with fail
      refine HT1.out.mono ?_
      rintro e2 w8 ⟨⟨k', hk', rfl, ht1, ht2⟩, rfl⟩
      go_wp2_with fail
      refine HT2.out.mono ?_
      rintro e2 w8 ⟨⟨k3, hk3, rfl, ht3, ht4⟩, rfl⟩
      have e3 : (L.take k3).length = k3 := by rw [List.length_take, HLL.out]; omega
      have e1 : (Q.take k').length = k' := by rw [List.length_take, HQK.out]; omega
      have HUN := Lib.hid (Runshifted_any (some ⟨g, 0, none⟩) k3 cap (L.take k3) s wo e3 (by omega) hs32 (HWR.out.take k3))
      have HE1 := Lib.hid e1
      have HTQ := Lib.hid (top_take (l' := Q.take k') rfl (by rw [HQK.out]; exact hk') ht1)
      have HVQ : Hid (val (Q.take k') = val la / val lb) := Lib.hid (by rw [val_take_top Q k' ht2]; exact HQ1.out)
      have HVR : Hid (val (L.take k3) / 2 ^ s = val la % val lb) := Lib.hid (by rw [val_take_top L k3 ht4, HR1.out]; exact Nat.mul_div_cancel _ hPpos)
      clear e1 e3 ht1 ht2 ht3 ht4
      go_wp2_with fail
      refine HUN.out.mono ?_
      rintro e2 w9 ⟨A9, c9, l9, rfl, hc9, hs9, ht9, hv9, hb9⟩
      have HV9 := Lib.hid hv9
      clear hv9
      go_wp2_with fail
      go_ret2
      exact ⟨some ⟨gq, 0, none⟩, K0, Q.take k', A9, c9, l9, by rw [HE1.out]; rfl, by rw [HE1.out]; exact hk', hc9, (HWQ.out.take k').below hb9, hs9, HTQ.out, ht9, HVQ.out, HV9.out.trans HVR.out, bt HBL.out hb9⟩
    · obtain ⟨k, rfl⟩ : ∃ k, K = k + 1 := ⟨K - 1, by omega⟩
      have hkn := hI.out.kn
      rw [show (((k + 1 : Nat) : Int) - 1) = (k : Int) from by omega]
      have hc := HOW.out.cells (by have := hI.out.ll; omega)
      obtain ⟨-, hc1, hc2, hc3, hc4, hc5⟩ := hc
      obtain ⟨j1, hj1⟩ : ∃ j, j = k + k2 := ⟨_, rfl⟩
      obtain ⟨j0, hj0⟩ : ∃ j, j + 1 = k + k2 := ⟨k + k2 - 1, by omega⟩
      obtain ⟨jn, hjn⟩ : ∃ j, j + 1 = k2 := ⟨k2 - 1, by omega⟩
      have hj1i : (k : Int) + (k2 : Int) = (j1 : Int) := by omega
      have hj0i : (j1 : Int) - 1 = (j0 : Int) := by omega
      have hjni : (k2 : Int) - 1 = (jn : Int) := by omega
      have hj1w : IntKind.i64.wrap (j1 : Int) = (j1 : Int) := IntWalk.i64_in _ ⟨by omega, by omega⟩
      have hj0w : IntKind.i64.wrap (j0 : Int) = (j0 : Int) := IntWalk.i64_in _ ⟨by omega, by omega⟩
      have hj1N : (j1 : Int) < (N : Int) := by omega
      have hj0N : (j0 : Int) < (N : Int) := by omega
      have hjnN : (jn : Int) < (k2 : Int) := by omega
      have hLl := hI.out.ll
      have hu1 := hc4 j1 (by omega)
      have hu0 := hc4 j0 (by omega)
      have hdc := ws_cell HWL.out (j := jn) (by have := HLD.out.1; omega)
      rw [Nat.zero_add] at hdc
      have hx1 := getD_lt HOW.out.2 j1
      have hx0 := getD_lt HOW.out.2 j0
      have hxd := getD_lt HWL.out.1 jn
      have htop := dv_top hI.out HOW.out.2 hn2' HLD.out.2.1 HLD.out.2.2.1 HLD.out.2.2.2.1
      have hdt0 := HLD.out.2.2.2.1
      rw [show k2 - 1 = jn by omega] at htop hdt0
      rw [show k + k2 - 1 = j0 by omega, ← hj1] at htop
      obtain ⟨U, hU⟩ : ∃ U, U = val (seg L k (k2 + 1)) := ⟨_, rfl⟩
      obtain ⟨D, hD⟩ : ∃ D, D = val ld := ⟨_, rfl⟩
      rw [← hU, ← hD] at htop
      obtain ⟨x1, hx1e⟩ : ∃ x, x = gd L j1 := ⟨_, rfl⟩
      obtain ⟨x0, hx0e⟩ : ∃ x, x = gd L j0 := ⟨_, rfl⟩
      obtain ⟨dt, hdte⟩ : ∃ x, x = gd ld jn := ⟨_, rfl⟩
      rw [← hx1e] at hu1 hx1 htop
      rw [← hx0e] at hu0 hx0 htop
      rw [← hdte] at hdc hxd htop hdt0
      obtain ⟨T, hT⟩ : ∃ T, T = x0 + 4294967296 * x1 := ⟨_, rfl⟩
      have hor : bits BinOp.or IntKind.u64 ((x1 : Int) * 4294967296) (x0 : Int) = (T : Int) := by rw [hT]; exact or64' x0 x1 hx0 hx1
      have hTl : T < 18446744073709551616 := by omega
      rw [← hT] at htop
      obtain ⟨g0, hg0⟩ : ∃ g0, g0 = T / dt := ⟨_, rfl⟩
      rw [← hg0] at htop
      have hg0l : g0 < 18446744073709551616 := by rw [hg0]; exact Nat.lt_of_le_of_lt (Nat.div_le_self _ _) hTl
      have hd0 : ((dt : Int) == 0) = false := beq_eq_false_iff_ne.2 (by omega)
      have hd1 : (T : Int) / (dt : Int) = (g0 : Int) := by rw [hg0]; simp
      have hd2 : (T : Int).tdiv (dt : Int) = (g0 : Int) := by rw [Int.tdiv_eq_ediv_of_nonneg (by omega)]; exact hd1
      have HTOP := Lib.hid htop
      have HU := Lib.hid hU
      have HD := Lib.hid hD
      have HJ := Lib.hid hj1
      have HLL := Lib.hid hLl
      clear htop hU hD hx1e hx0e hdte hT hg0 hj1 hj0 hjn hc4 hc5 hLl
      go_wp2_with fail
      go_quiet (fail)
      go_upto_if 91 with (fail)
      go_cut [11] (fun gv wx => GuessR D U wo gv wx)
      case first =>
        by_cases hgt : (4294967295 : Int) < (g0 : Int)
        · go_wp2_with fail
          go_meet
          exact ⟨4294967295, rfl, by omega, by rw [show 4294967295 + 1 = 4294967296 from rfl]; exact HTOP.out.1, bd (b0 _) _⟩
        · go_wp2_with fail
          go_meet
          exact ⟨g0, rfl, by omega, HTOP.out.2, bd (b0 _) _⟩
      case rest =>
      obtain ⟨G, rfl, hG1, hGU, hbc⟩ := hcut
      obtain ⟨w6, hw6⟩ : ∃ v, v = wc := ⟨_, rfl⟩
      rw [← hw6] at hbc ⊢
      clear hw6 wc
      have HGU := Lib.hid hGU
      have HOW6 := Lib.hid (HOW.out.below hbc)
      have HBQ6 := Lib.hid (HBQ.out.below hbc)
      have HWL6 := Lib.hid (HWL.out.below hbc)
      have HBL6 := Lib.hid (bt HBL.out hbc)
      have hbcs := hbc.size
      clear hGU hbc HOW HBQ HWL HBL hu1 hu0 hdc hx1 hx0 hxd hor hd0 hd1 hd2
      go_wp2_with fail
      have HW4 := Lib.hid (fun (k : Nat) (hk : k ≤ 2000000) W h => Rword_any (some ⟨g2, 0, none⟩) k2 L2.length (k : Int) ld W HLD.out.1 (by omega) (by omega) (by omega) h)
      have hIs := hI.out
      have hkl : k + k2 < L.length := by rw [HLL.out]; omega
      have HKL := Lib.hid hkl
      clear hIs hkl hkn
      go_loopw [12, 13, 14] (fun cv bv iv wr => ∃ (i : Nat) (T : List Nat) (bo ca : Nat), i ≤ k2 + 1 ∧ iv = .int .i64 (i : Int) ∧ cv = .int .u64 (ca : Int) ∧ bv = .int .u64 (bo : Int) ∧ bo ≤ 1 ∧ ca < 4294967296 ∧ (k2 < i → ca = 0) ∧ T.length = i ∧ (∀ y ∈ T, y < 4294967296) ∧ Hid (val T + G * val (ld.take i) = val (seg L k i) + BB i * (bo + ca)) ∧ OwnR w.heap.size wr (.slice (some ⟨g, 0, none⟩) N cap) (spl L k T) ∧ Only g w6 wr) (fun _ _ iv _ => k2 + 1 - (intOf iv).toNat)
      case atStart => exact ⟨0, [], 0, 0, Nat.zero_le _, rfl, rfl, rfl, by omega, by omega, fun _ => rfl, rfl, by simp, Lib.hid (by simp [seg_zero, val]), by rw [spl_nil]; exact HOW6.out, only_refl _ _⟩
      case round =>
        obtain ⟨i, T, bo, ca, hi, rfl, rfl, rfl, hbo, hca, hca0, hTl, hTw, hv, hown, hO⟩ := hrel
        obtain ⟨wi, rfl⟩ : ∃ x : World, x = wr := ⟨_, rfl⟩
        by_cases hlt : i ≤ k2
        · have hlti : (i : Int) ≤ (k2 : Int) := by omega
          have hwl := HWL6.out.only hO (fun _ b o e => by injection e with e; injection e with e; omega)
          have hx : gd ld i < 4294967296 := getD_lt hwl.1 i
          have HX := Lib.hid (HW4.out i (by omega) wi hwl)
          rw [Int.toNat_natCast] at HX
          obtain ⟨j, hj⟩ : ∃ j, j = k + i := ⟨_, rfl⟩
          have hji : (k : Int) + (i : Int) = (j : Int) := by omega
          have hLLo := HLL.out
          have hKLo := HKL.out
          have hspl : (spl L k T).length = N := by rw [spl_length (by omega)]; exact hLLo
          have hc := hown.cells (by omega)
          obtain ⟨-, hc1, hc2, hc3, hc4, hc5⟩ := hc
          have hzc := hc4 j (by omega)
          rw [spl_get (by omega) (by omega)] at hzc
          have hzf := hc5 j
          have hz : gd L j < 4294967296 := by
            have := getD_lt hown.2 j
            rwa [spl_get (by omega) (by omega)] at this
          have hjN : (j : Int) < (N : Int) := by omega
          have hjw : IntKind.i64.wrap (j : Int) = (j : Int) := IntWalk.i64_in _ ⟨by omega, by omega⟩
          have H3 := Lib.hid (val_take_any ld i)
          have H4 := Lib.hid (val_seg_succ L k (k := i) (by omega))
          have hxn : k2 < i + 1 → gd ld i = 0 := fun h => gd_end (by have := HLD.out.1; omega)
          have HXN := Lib.hid hxn
          rw [← hj] at H4
          generalize gd ld i = x at *
          generalize gd L j = z at *
          have hxg := Nat.mul_le_mul (Nat.le_of_lt_succ hx) hG1
          obtain ⟨xg, hxge⟩ : ∃ xg, xg = x * G := ⟨_, rfl⟩
          have hxgi : (x : Int) * (G : Int) = (xg : Int) := by rw [hxge]; simp
          rw [← hxge] at hxg
          obtain ⟨p, hp⟩ : ∃ p, p = xg + ca := ⟨_, rfl⟩
          have hpi : (xg : Int) + (ca : Int) = (p : Int) := by omega
          have hpl : p < 18446744073709551616 := by omega
          have hxgw : IntKind.u64.wrap (xg : Int) = (xg : Int) := IntWalk.u64_in _ ⟨by omega, by omega⟩
          have hpw : IntKind.u64.wrap (p : Int) = (p : Int) := IntWalk.u64_in _ ⟨by omega, by omega⟩
          obtain ⟨ca', hca'⟩ : ∃ q, q = p / 4294967296 := ⟨_, rfl⟩
          have hcai : (p : Int) / 4294967296 = (ca' : Int) := by omega
          obtain ⟨lo, hlo⟩ : ∃ q, q = p % 4294967296 := ⟨_, rfl⟩
          have hand := and_mask p hpl
          rw [← hlo] at hand
          have hlol : lo < 4294967296 := by omega
          obtain ⟨t, ht⟩ : ∃ t, t + lo + bo = z + 4294967296 := ⟨z + 4294967296 - lo - bo, by omega⟩
          have hti : (z : Int) + 4294967296 - (lo : Int) - (bo : Int) = (t : Int) := by omega
          have htl : t < 8589934592 := by omega
          have htw : IntKind.u64.wrap (t : Int) = (t : Int) := IntWalk.u64_in _ ⟨by omega, by omega⟩
          obtain ⟨q, hq⟩ : ∃ q, q = t % 4294967296 := ⟨_, rfl⟩
          have hqi : (t : Int) % 4294967296 = (q : Int) := by omega
          have hql : q < 4294967296 := by omega
          obtain ⟨tc, htc⟩ : ∃ q, q = t / 4294967296 := ⟨_, rfl⟩
          have htci : (t : Int) / 4294967296 = (tc : Int) := by omega
          obtain ⟨bo', hbo'⟩ : ∃ b, b = 1 - tc := ⟨_, rfl⟩
          have htcl : tc ≤ 1 := by omega
          have hboi : (1 : Int) - (tc : Int) = (bo' : Int) := by omega
          have hbol : bo' ≤ 1 := by omega
          have hca2 : ca' < 4294967296 := by omega
          have HT1 := Lib.hid ht
          have HP := Lib.hid (show p = x * G + ca by rw [hp, hxge])
          have HCA := Lib.hid hca'
          have HLO := Lib.hid hlo
          have HQ := Lib.hid hq
          have HTC := Lib.hid htc
          have HBO := Lib.hid hbo'
          have HJ := Lib.hid hj
          have HTL2 := Lib.hid hTl
          have HOWN := Lib.hid hown
          have HCA0 : Hid (k2 < i + 1 → ca' = 0) := Lib.hid (fun h => by
            have h0 := HXN.out h
            subst h0
            have h9 := HP.out
            rw [Nat.zero_mul, Nat.zero_add] at h9
            omega)
          have hset := hown.set_ (i := j) (x := q) (by rw [hspl]; omega) hql
          rw [hj, ← hTl, spl_set _ (by omega), hTl, ← hj] at hset
          have HSET := Lib.hid hset
          clear hxge hp hca' hlo ht hq htc hbo' hj hTl hown hset hspl hc1 hc2 hc3 hc4 hc5 hca0 hxn hLLo hKLo hxg
          go_wp2_with fail
          refine (HX.out).mono ?_
          rintro _ w1 ⟨rfl, rfl⟩
          go_wp2_with fail
          go_roundw
          case rel =>
            refine ⟨i + 1, T ++ [q], bo', ca', by omega, by go_num, rfl, rfl, hbol, hca2, HCA0.out, by simp [HTL2.out], words_snoc hTw hql, ?_, HSET.out, hO.set_ (.inl rfl) _⟩
            refine Lib.hid ?_
            rw [val_snoc, HTL2.out, H3.out, H4.out, BB_succ, HQ.out, HBO.out, HTC.out, HCA.out]
            refine dv_sub hv.out HP.out ?_ ?_
            · rw [← HLO.out]; exact HT1.out
            · rw [← HTC.out]; exact htcl
          case measure => simp [intOf]; omega
        · obtain rfl : i = k2 + 1 := by omega
          have hnlti : ¬ ((k2 + 1 : Nat) : Int) ≤ (k2 : Int) := by omega
          obtain rfl := hca0 (by omega)
          have hv1 := hv.out
          rw [Nat.add_zero, List.take_of_length_le (by rw [HLD.out.1]; omega), ← HU.out, ← HD.out] at hv1
          have HV1 := Lib.hid hv1
          have HTL2 := Lib.hid hTl
          have HOWN := Lib.hid hown
          have hOs := hO.size
          clear hv1 hTl hown hca0 hv
          go_wp2_with fail
          go_loopw [11, 13] (fun gv bv wr => ∃ (G : Nat) (T : List Nat) (bo : Nat), gv = .int .u64 (G : Int) ∧ G ≤ 4294967295 ∧ bv = .int .u64 (bo : Int) ∧ bo ≤ 1 ∧ T.length = k2 + 1 ∧ (∀ y ∈ T, y < 4294967296) ∧ Hid (val T + G * D = U + BB (k2 + 1) * bo) ∧ Hid (U < (G + 1) * D) ∧ OwnR w.heap.size wr (.slice (some ⟨g, 0, none⟩) N cap) (spl L k T) ∧ Only g w6 wr) (fun gv _ _ => (intOf gv).toNat)
          case atStart => exact ⟨G, T, bo, rfl, hG1, rfl, hbo, HTL2.out, hTw, HV1, HGU, HOWN.out, hO⟩
          case round =>
            clear hO hOs hbo hTw HV1 HTL2 HOWN
            obtain ⟨G, T, bo, rfl, hG, rfl, hbo, hTl, hTw, hv, hgu, hown, hO⟩ := hrel
            obtain ⟨wi, rfl⟩ : ∃ x : World, x = wr := ⟨_, rfl⟩
            rcases Nat.eq_zero_or_pos bo with rfl | hb1
            · have hv1 := hv.out
              rw [Nat.mul_zero, Nat.add_zero] at hv1
              have hTD : val T < D := by
                have := hgu.out
                rw [← hv1, Nat.add_mul, Nat.one_mul] at this
                omega
              have hstep := hI.out.step (g := G) (T := T) HLD.out.2.2.1 (by omega) hTl (by rw [← HD.out, ← HU.out]; exact hv1) (by rw [← HD.out]; exact hTD)
              have HSTEP := Lib.hid hstep
              have hbQ := HBQ6.out.only hO (by omega)
              have hql := hI.out.ql
              have hkn := hI.out.kn
              have hkK : (k : Int) < (K0 : Int) := by omega
              have hGl : G < 4294967296 := by omega
              have hGi : (G : Int) % 4294967296 = (G : Int) := by omega
              have hqc := hbQ.cell (i := k) (by omega)
              have hqf := hbQ.free k
              have HBQ7 := Lib.hid hbQ
              have hown2 := hown.only' (q := gq) (W' := wi.setCell ⟨gq, k, none⟩ (.int .u32 (G : Int))) ((only_refl gq wi).set_ (.inl rfl) _) (fun q hq => by simp [Value.ownBlock] at hq; omega)
              have hwl := HWL6.out.only hO (fun _ b o e => by injection e with e; injection e with e; omega)
              have hwl2 := hwl.only (g := gq) (w' := wi.setCell ⟨gq, k, none⟩ (.int .u32 (G : Int))) ((only_refl gq wi).set_ (.inl rfl) _) (fun _ b o e => by injection e with e; injection e with e; omega)
              have hbl2 : Below w.heap.size w (wi.setCell ⟨gq, k, none⟩ (.int .u32 (G : Int))) := bs (Go.Proofs.YtgljdfblgpdaaaaGreatDoor.bo HBL6.out hO hgb1) (by show w.heap.size ≤ gq; omega) _
              have HOWN7 := Lib.hid hown2
              have HWL7 := Lib.hid hwl2
              generalize gd Q k = qq at *
              clear hv1 hTD hstep hbQ hql hkn hown2 hwl hwl2 hown hTl
              go_wp2_with fail
              go_roundw
              case rel =>
                exact ⟨k, Q.set k G, spl L k T, rfl, HSTEP, HOWN7.out, HBQ7.out.set_ hGl, HWL7.out, hbl2⟩
              case measure => simp [intOf]
            · obtain rfl : bo = 1 := by omega
              have hDpos : val T < BB (k2 + 1) := by have := val_lt hTw; rwa [hTl] at this
              have hG0 : 0 < G := by
                rcases Nat.eq_zero_or_pos G with h | h
                · exfalso
                  have := hv.out
                  rw [h, Nat.zero_mul, Nat.mul_one] at this
                  omega
                · exact h
              obtain ⟨G', rfl⟩ : ∃ G', G = G' + 1 := ⟨G - 1, by omega⟩
              have HTL2 := Lib.hid hTl
              have HOWN := Lib.hid hown
              have HGL : Hid (U < (G' + 1) * D) := Lib.hid (by
                have h1 := hv.out
                have h2 := hDpos
                rw [Nat.mul_one] at h1
                omega)
              have hGi : ((G' + 1 : Nat) : Int) - 1 = (G' : Int) := by omega
              clear hTl hown hDpos
              go_wp2_with fail
              go_loopw [12, 17] (fun cv iv wr => ∃ (i : Nat) (S : List Nat) (ca : Nat), i ≤ k2 + 1 ∧ iv = .int .i64 (i : Int) ∧ cv = .int .u64 (ca : Int) ∧ ca ≤ 1 ∧ S.length = i ∧ (∀ y ∈ S, y < 4294967296) ∧ Hid (val S + BB i * ca = val (T.take i) + val (ld.take i)) ∧ OwnR w.heap.size wr (.slice (some ⟨g, 0, none⟩) N cap) (spl L k (S ++ T.drop i)) ∧ Only g w6 wr) (fun _ iv _ => k2 + 1 - (intOf iv).toNat)
              case atStart => exact ⟨0, [], 0, Nat.zero_le _, rfl, rfl, by omega, rfl, by simp, Lib.hid (by simp [val]), HOWN.out, hO⟩
              case round =>
                clear hO HOWN
                obtain ⟨i, S, ca, hi, rfl, rfl, hca, hSl, hSw, hvs, hown, hO⟩ := hrel
                obtain ⟨wj, rfl⟩ : ∃ x : World, x = wr := ⟨_, rfl⟩
                by_cases hlt : i ≤ k2
                · have hlti : (i : Int) ≤ (k2 : Int) := by omega
                  have hwl := HWL6.out.only hO (fun _ b o e => by injection e with e; injection e with e; omega)
                  have hx : gd ld i < 4294967296 := getD_lt hwl.1 i
                  have HX := Lib.hid (HW4.out i (by omega) wj hwl)
                  have HX2 := Lib.hid (fun W h => HW4.out i (by omega) W h)
                  rw [Int.toNat_natCast] at HX HX2
                  have HWLJ := Lib.hid hwl
                  obtain ⟨j, hj⟩ : ∃ j, j = k + i := ⟨_, rfl⟩
                  have hji : (k : Int) + (i : Int) = (j : Int) := by omega
                  have hLLo := HLL.out
                  have hKLo := HKL.out
                  have hSTl : (S ++ T.drop i).length = k2 + 1 := by rw [List.length_append, List.length_drop, HTL2.out, hSl]; omega
                  have hspl : (spl L k (S ++ T.drop i)).length = N := by rw [spl_length (by omega)]; exact hLLo
                  have hc := hown.cells (by omega)
                  obtain ⟨-, hc1, hc2, hc3, hc4, hc5⟩ := hc
                  have hzc := hc4 j (by omega)
                  have hgz : gd (spl L k (S ++ T.drop i)) j = gd T i := by rw [hj]; exact spl_gd hSl (by rw [HTL2.out]; omega) (by rw [HTL2.out]; omega)
                  rw [hgz] at hzc
                  have hzf := hc5 j
                  have hz : gd T i < 4294967296 := getD_lt hTw i
                  have hjN : (j : Int) < (N : Int) := by omega
                  have hjw : IntKind.i64.wrap (j : Int) = (j : Int) := IntWalk.i64_in _ ⟨by omega, by omega⟩
                  have H3 := Lib.hid (val_take_any ld i)
                  have H4 := Lib.hid (val_take_any T i)
                  generalize gd ld i = x at *
                  generalize gd T i = z at *
                  obtain ⟨zx, hzx⟩ : ∃ p, p = z + x := ⟨_, rfl⟩
                  have hzxi : (z : Int) + (x : Int) = (zx : Int) := by omega
                  obtain ⟨t, ht⟩ : ∃ t, t = zx + ca := ⟨_, rfl⟩
                  have hti : (zx : Int) + (ca : Int) = (t : Int) := by omega
                  have htl : t < 8589934592 := by omega
                  have hzxw : IntKind.u64.wrap (zx : Int) = (zx : Int) := IntWalk.u64_in _ ⟨by omega, by omega⟩
                  have htw : IntKind.u64.wrap (t : Int) = (t : Int) := IntWalk.u64_in _ ⟨by omega, by omega⟩
                  obtain ⟨q, hq⟩ : ∃ q, q = t % 4294967296 := ⟨_, rfl⟩
                  have hqi : (t : Int) % 4294967296 = (q : Int) := by omega
                  have hql : q < 4294967296 := by omega
                  obtain ⟨tc, htc⟩ : ∃ q, q = t / 4294967296 := ⟨_, rfl⟩
                  have htci : (t : Int) / 4294967296 = (tc : Int) := by omega
                  have htcl : tc ≤ 1 := by omega
                  have HT1 := Lib.hid (show t = z + x + ca by rw [ht, hzx])
                  have HQ := Lib.hid hq
                  have HTC := Lib.hid htc
                  have HSL := Lib.hid hSl
                  have HKEY : Hid (∀ W, OwnR w.heap.size W (.slice (some ⟨g, 0, none⟩) N cap) (spl L k (S ++ T.drop i)) → OwnR w.heap.size (W.setCell ⟨g, j, none⟩ (.int .u32 (q : Int))) (.slice (some ⟨g, 0, none⟩) N cap) (spl L k ((S ++ [q]) ++ T.drop (i + 1)))) := Lib.hid (fun W hW => by
                    have h := hW.set_ (i := j) (x := q) (by rw [hspl]; omega) hql
                    rwa [hj, spl_step hSl (by rw [HTL2.out]; omega) (by rw [HTL2.out]; omega), ← hj] at h)
                  have HOWNJ := Lib.hid hown
                  clear hzx ht hq htc hj hSl hown hspl hgz hc1 hc2 hc3 hc4 hc5 hLLo hKLo hSTl hwl
                  go_wp2_with fail
                  go_quiet ((go_at_call 145; with_reducible exact quiet_w (HX2.out _ (HWLJ.out.below (bd (b0 _) _)))))
                  go_wp2_with fail
                  go_roundw
                  case rel =>
                    refine ⟨i + 1, S ++ [q], tc, by omega, by go_num, rfl, htcl, by simp [HSL.out], words_snoc hSw hql, ?_, HKEY.out _ (HOWNJ.out.below (bd (b0 _) _)), (hO.drw _).set_ (.inl rfl) _⟩
                    refine Lib.hid ?_
                    rw [val_snoc, HSL.out, H4.out, H3.out, BB_succ, HQ.out, HTC.out]
                    exact sum_turn hvs.out HT1.out
                  case measure => simp [intOf]; omega
                · obtain rfl : i = k2 + 1 := by omega
                  have hnlti : ¬ ((k2 + 1 : Nat) : Int) ≤ (k2 : Int) := by omega
                  have hv2 := hvs.out
                  rw [List.take_of_length_le (by rw [HTL2.out]; exact Nat.le_refl _), List.take_of_length_le (by rw [HLD.out.1]; omega), ← HD.out] at hv2
                  rw [List.drop_of_length_le (by rw [HTL2.out]; exact Nat.le_refl _), List.append_nil] at hown
                  have hv1 := hv.out
                  rw [Nat.mul_one] at hv1
                  have HFIX := Lib.hid (dv_fix hv1 hv2 hca)
                  obtain ⟨b2, hb2⟩ : ∃ b, b = 1 - ca := ⟨_, rfl⟩
                  have hb2i : (1 : Int) - (ca : Int) = (b2 : Int) := by omega
                  have hb2l : b2 ≤ 1 := by omega
                  rw [← hb2] at HFIX
                  have HOWNJ := Lib.hid hown
                  have HSL := Lib.hid hSl
                  clear hv1 hv2 hvs hb2 hown hSl
                  go_wp2_with fail
                  go_roundw
                  case rel => exact ⟨G', S, b2, rfl, by omega, rfl, hb2l, HSL.out, hSw, HFIX, HGL, HOWNJ.out, hO⟩
                  case measure => simp [intOf]
end Go.Proofs.YtgljdfblgpdaaaaGreatDoor
