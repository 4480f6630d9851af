import Derived.Test.YtgljdfblgpdaaaaGreatDoorPbNumSpA
import Derived.Test.YtgljdfblgpdaaaaGreatDoorTyNumParse
set_option linter.unusedSimpArgs false
set_option linter.unusedVariables false
set_option maxRecDepth 100000
set_option maxHeartbeats 4000000
namespace Go.Proofs.YtgljdfblgpdaaaaGreatDoor
open Go.RowKit Go.Shelf
set_option maxRecDepth 100000 in
set_option maxHeartbeats 1000000 in
theorem RmulWords_any (A B : Option Addr) (n c m d : Nat) (la lb : List Nat) (w : World) (hn : la.length = n) (hm : lb.length = m) (hn2 : n ≤ 1000000) (hm2 : m ≤ 1000000) (hA : WS w A la) (hB : WS w B lb) :
    Calls Tryz.prog 102 #[.slice A n c, .slice B m d] w (WsP w (val la * val lb)) := by
  subst hn hm
  obtain ⟨N, hN⟩ : ∃ N, N = la.length + lb.length := ⟨_, rfl⟩
  have hmk := fun W => run_mk (N : Int) N rfl (by omega) W
  have hNi : (la.length : Int) + (lb.length : Int) = (N : Int) := by omega
  have hN2 : N ≤ 2000000 := by omega
  have hNw : IntKind.i64.wrap (N : Int) = (N : Int) := IntWalk.i64_in _ ⟨by omega, by omega⟩
  have hgA := hA.off (Nat.le_refl _)
  have hgB := hB.off (Nat.le_refl _)
  have HN := Lib.hid hN
  clear hN
  go_enter Tryz.func102, Tryz.ntmps102
  go_wp2_with fail
  go_loopw [6] (fun iv wr => ∃ (i : Nat) (S : List Nat), i ≤ la.length ∧ iv = .int .i64 (i : Int) ∧ S.length = lb.length + i ∧ val S = val lb * val (la.take i) ∧ Blk wr w.heap.size (spl (zer N) 0 S) ∧ Only w.heap.size w wr) (fun iv _ => la.length - (intOf iv).toNat)
  case atStart => exact ⟨0, zer lb.length, Nat.zero_le _, rfl, by simp [zer_length], by simp [val_zer, val], by rw [spl_zer, zer_length, ← zer_append, show lb.length + (N - lb.length) = N from by have := HN.out; omega]; exact Blk.new w _ (zer_lt _), Only.mono (ba (b0 _) _)⟩
  case round =>
    obtain ⟨i, S, hi, rfl, hS, hv, hb, hO⟩ := hrel
    by_cases hlt : i < la.length
    · have hsl : (spl (zer N) 0 S).length = N := by rw [spl_length (by rw [zer_length]; omega), zer_length]
      have hA1 := hA.only hO hgA
      have hB1 := hB.only hO hgB
      obtain ⟨bA, oA, hAe, h8, h9⟩ := hA1.at_ (by omega)
      subst hAe
      clear h8 h9
      have hxc := ws_cell hA1 hlt
      have hx : gd la i < 4294967296 := getD_lt hA.1 i
      have H1 := Lib.hid (val_take la hlt)
      generalize hxe : gd la i = x at *
      have HXE := Lib.hid hxe
      clear hxe
      have HS := Lib.hid hS
      have HV := Lib.hid hv
      have hlti : (i : Int) < (la.length : Int) := by omega
      clear hv hS
      generalize hLe : spl (zer N) 0 S = L at *
      have HLE := Lib.hid hLe
      clear hLe
      go_wp2_with fail
      go_loopw [7, 8] (fun cv kv w2 => ∃ (k : Nat) (T : List Nat) (r : Nat), k ≤ lb.length ∧ kv = .int .i64 (k : Int) ∧ cv = .int .u64 (r : Int) ∧ r < 4294967296 ∧ T.length = k ∧ (∀ y ∈ T, y < 4294967296) ∧ val T + BB k * r = val (seg L i k) + x * val (lb.take k) ∧ Blk w2 w.heap.size (spl L i T) ∧ Only w.heap.size wr w2) (fun _ kv _ => lb.length - (intOf kv).toNat)
      case atStart => exact ⟨0, [], 0, Nat.zero_le _, rfl, rfl, by omega, rfl, by simp, by simp [seg_zero, val], by rw [spl_nil]; exact hb, only_refl _ _⟩
      case round =>
        obtain ⟨k, T, r, hk, rfl, rfl, hr, hT, hTw, hv2, hb2, hO2⟩ := hrel
        by_cases hlk : k < lb.length
        · have hB2 := hB1.only hO2 hgB
          obtain ⟨bB, oB, hBe, h8, h9⟩ := hB2.at_ (by omega)
          subst hBe
          clear h8 h9
          have hyc := ws_cell hB2 hlk
          have hxc2 := ws_cell (hA1.only hO2 hgA) hlt
          rw [HXE.out] at hxc2
          have hNl := HN.out
          obtain ⟨j, hj⟩ : ∃ j, j = i + k := ⟨_, rfl⟩
          have hc3 := hb2.cell (i := i + k) (by rw [spl_length (by omega)]; omega)
          rw [spl_get (by omega) (by omega), ← hj] at hc3
          have hf3 := hb2.free j
          have hji : (i : Int) + (k : Int) = (j : Int) := by omega
          have hjN : (j : Int) < (N : Int) := by omega
          have hjw : IntKind.i64.wrap (j : Int) = (j : Int) := IntWalk.i64_in _ ⟨by omega, by omega⟩
          have hy : gd lb k < 4294967296 := getD_lt hB.1 k
          have hz := getD_lt hb.1 j
          have H3 := val_take lb hlk
          have H4 := val_seg_succ L i (k := k) (by omega)
          rw [← hj] at H4
          obtain ⟨y, hye⟩ : ∃ y, y = gd lb k := ⟨_, rfl⟩
          obtain ⟨z, hze⟩ : ∃ z, z = gd L j := ⟨_, rfl⟩
          rw [← hye] at hyc hy H3
          rw [← hze] at hc3 hz H4
          clear hye hze
          replace H4 := Lib.hid H4
          replace H3 := Lib.hid H3
          have hxy := Nat.mul_le_mul (Nat.le_of_lt_succ hx) (Nat.le_of_lt_succ hy)
          obtain ⟨p, hp⟩ : ∃ p, p = x * y := ⟨_, rfl⟩
          have hpi : (x : Int) * (y : Int) = (p : Int) := by rw [hp]; simp
          have hpl : p ≤ 18446744065119617025 := by omega
          obtain ⟨t, ht⟩ : ∃ t, t = p + z := ⟨_, rfl⟩
          obtain ⟨s, hs⟩ : ∃ s, s = t + r := ⟨_, rfl⟩
          obtain ⟨q, hq⟩ : ∃ q, q = s % 4294967296 := ⟨_, rfl⟩
          have et : q < 4294967296 := by omega
          have hti : (p : Int) + (z : Int) = (t : Int) := by omega
          have hsi : (t : Int) + (r : Int) = (s : Int) := by omega
          have hqi : (s : Int) % 4294967296 = (q : Int) := by omega
          have hpw : IntKind.u64.wrap (p : Int) = (p : Int) := IntWalk.u64_in _ ⟨by omega, by omega⟩
          have htw : IntKind.u64.wrap (t : Int) = (t : Int) := IntWalk.u64_in _ ⟨by omega, by omega⟩
          have hsw : IntKind.u64.wrap (s : Int) = (s : Int) := IntWalk.u64_in _ ⟨by omega, by omega⟩
          have hsl2 : s ≤ 18446744073709551615 := by omega
          have hss : s = y * x + z + r := by rw [hs, ht, hp, Nat.mul_comm]
          have HJ := Lib.hid hj
          have HSS := Lib.hid hss
          have HQ := Lib.hid hq
          have HT := Lib.hid hT
          have HV2 := Lib.hid hv2
          have HB2 := Lib.hid hb2
          have hlki : (k : Int) < (lb.length : Int) := by omega
          clear hNl hj hp ht hs hq hxy hss hT hv2 hb2 hxc
          go_wp2_with fail
          go_quiet (fail)
          go_wp2_with fail
          go_roundw
          case rel =>
            refine ⟨k + 1, T ++ [q], s / 4294967296, by omega, by go_num, by go_num, by omega, by simp [HT.out], words_snoc hTw et, ?_, ?_, (hO2.drw _).set_ (.inl rfl) _⟩
            · rw [val_snoc, HT.out, H4.out, H3.out, BB_succ, HQ.out]
              exact row_step HV2.out HSS.out
            · have key : ∀ W, Blk W w.heap.size (spl L i T) → Blk (W.setCell ⟨w.heap.size, j, none⟩ (.int .u32 (q : Int))) w.heap.size (spl L i (T ++ [q])) := fun W hW => by
                have h := hW.set_ (i := j) et
                rw [HJ.out, ← HT.out] at h
                rw [spl_set _ (by rw [HT.out]; have := HN.out; omega)] at h
                rw [HJ.out, ← HT.out]
                exact h
              exact key _ (HB2.out.below (bd (b0 _) _))
          case measure => simp [intOf]; omega
        · have hek : k = lb.length := by omega
          subst hek
          have hlki : ¬ (lb.length : Int) < (lb.length : Int) := by omega
          have hNl := HN.out
          obtain ⟨j, hj⟩ : ∃ j, j = i + lb.length := ⟨_, rfl⟩
          have hc3 := hb2.cell (i := j) (by rw [spl_length (by omega)]; omega)
          have hf3 := hb2.free j
          have hji : (i : Int) + (lb.length : Int) = (j : Int) := by omega
          have hjN : (j : Int) < (N : Int) := by omega
          have hjw : IntKind.i64.wrap (j : Int) = (j : Int) := IntWalk.i64_in _ ⟨by omega, by omega⟩
          have HJ := Lib.hid hj
          have HT := Lib.hid hT
          have HV2 := Lib.hid hv2
          have HB2 := Lib.hid hb2
          generalize gd (spl L i T) j = z at *
          clear hNl hj hT hv2 hb2
          go_wp2_with fail
          go_roundw
          case rel =>
            have hsL : spl (zer N) 0 S = L := HLE.out
            refine ⟨i + 1, S.take i ++ T ++ [r], by omega, by go_num, ?_, ?_, ?_, (hO.trans hO2).set_ (.inl rfl) _⟩
            · rw [List.length_append, List.length_append, List.length_take, HT.out, HS.out, Nat.min_eq_left (by omega)]; simp; omega
            · have hti : (S.take i).length = i := by rw [List.length_take, HS.out]; omega
              have h0 : val S = val (S.take i) + BB i * val (S.drop i) := by
                have := val_append (S.take i) (S.drop i)
                rwa [List.take_append_drop, hti] at this
              have hseg : seg L i lb.length = S.drop i := by rw [← hsL, spl_zer]; exact seg_mid (by rw [HS.out]; omega)
              have hv' := HV2.out
              rw [hseg, List.take_length] at hv'
              rw [val_snoc, val_append, List.length_append, hti, HT.out, BB_add, H1.out]
              exact rows_step h0 HV.out hv'
            · have h := HB2.out.set_ (i := j) hr
              have hrow := spl_row (S := S) (S' := T) (N := N) (i := i) r (by rw [HT.out, HS.out]; omega) (by rw [HS.out]; have := HN.out; omega)
              rw [hsL, HT.out, ← HJ.out] at hrow
              rw [hrow] at h
              exact h
          case measure => simp [intOf]; omega
    · have he : i = la.length := by omega
      subst he
      have hlti : ¬ (la.length : Int) < (la.length : Int) := by omega
      have hSN : spl (zer N) 0 S = S := by rw [spl_zer, show N - S.length = 0 from by have := HN.out; omega]; simp [zer]
      rw [hSN] at hb
      have hSl : S.length = N := by have := HN.out; omega
      have hws := hb.ws (o := 0) (n := N) (by omega)
      rw [List.drop_zero, ← hSl, List.take_length] at hws
      rw [List.take_length, Nat.mul_comm] at hv
      have hT := trim_wsp w wr _ N S _ (by omega) (by omega) hws hv (bo (b0 w) hO (Nat.le_refl _))
      rw [hSl] at hT
      have HT := Lib.hid hT
      clear hT hv hws hb hSN hS hSl
      go_wp2_with fail
      refine HT.out.mono ?_
      rintro e2 w4 ⟨A4, c4, l4, rfl, h4⟩
      go_wp2_with fail
      go_ret
      exact ⟨A4, c4, l4, rfl, h4⟩
end Go.Proofs.YtgljdfblgpdaaaaGreatDoor
