/- addTo. -/
import Derived.Test.YtaaipcjbmdbndaaDoorNumMul
namespace Go.Proofs.YtaaipcjbmdbndaaDoor
open Go.RowKit

theorem add_step {vS K r z vs vl x t : Nat} (hv : vS + K * r = vs + vl) (ht : t = z + x + r) :
    vS + K * (t % 4294967296) + K * 4294967296 * (t / 4294967296) = vs + K * z + (vl + K * x) := by
  have h1 : K * (t % 4294967296) + K * 4294967296 * (t / 4294967296) = K * t := by
    rw [Nat.mul_assoc, ← Nat.mul_add, Nat.mod_add_div]
  rw [Nat.add_assoc, h1, ht]
  have h2 : K * (z + x + r) = K * z + K * x + K * r := by rw [Nat.mul_add, Nat.mul_add]
  omega
theorem full_zero {vS B r s : Nat} (h : vS + B * r = s) (h2 : s < B) : r = 0 := by
  rcases Nat.eq_zero_or_pos r with h0 | h0
  · exact h0
  · have := Nat.le_mul_of_pos_right B h0; omega

set_option maxRecDepth 100000 in
set_option maxHeartbeats 1000000 in
theorem addTo_any (g o m d : Nat) (L : List Nat) (A : Option Addr) (n c : Nat) (l : List Nat) (w : World) (hn : l.length = n) (hm : n ≤ m) (hm2 : m ≤ 4000000) (hL : o + m ≤ L.length)
    (hg : Blk w g L) (hl : WS w A l) (ho : Off A l g) (hfit : val (seg L o m) + val l < BB m) :
    Calls Tryd.prog 88 #[.slice (some ⟨g, o, none⟩) m d, .slice A n c] w fun e w' =>
      ∃ (S : List Nat), e = .returned (.tuple #[]) ∧ S.length ≤ m ∧ (∀ x ∈ S, x < 4294967296) ∧ val S = val (seg L o S.length) + val l ∧ Blk w' g (spl L o S) ∧ Only g w w' := by
  subst hn
  have HF := Lib.hid hfit
  clear hfit
  go_enter Tryd.func88, Tryd.ntmps88
  go_wp2_with fail
  go_loopw [4, 12] (fun cv iv wr => ∃ (k : Nat) (S : List Nat) (r : Nat), k ≤ l.length ∧ iv = .int .i64 k ∧ cv = .int .u64 (r : Int) ∧ r ≤ 1 ∧ S.length = k ∧ (∀ x ∈ S, x < 4294967296) ∧ val S + BB k * r = val (seg L o k) + val (l.take k) ∧ Blk wr g (spl L o S) ∧ Only g w wr) (fun _ iv _ => l.length - (intOf iv).toNat)
  case atStart => exact ⟨0, [], 0, Nat.zero_le _, rfl, rfl, by omega, rfl, by simp, by simp [seg_zero, val], by rw [spl_nil]; exact hg, only_refl _ _⟩
  case round =>
    obtain ⟨k, S, r, hk, rfl, rfl, hr, hS, hSw, hv, hb, hO⟩ := hrel
    by_cases hlt : k < l.length
    · obtain ⟨b, off, rfl, hblt, hc⟩ := (hl.only hO ho).at_ (by omega)
      have hc1 := hc k hlt
      have hc2 := hb.cell (i := o + k) (by rw [spl_length (by omega)]; omega)
      have hf2 := hb.free (o + k)
      rw [spl_get (by omega) (by omega)] at hc2
      have hx := hl.lt k
      have hz := getD_lt hg.1 (o + k)
      have H1 := Lib.hid (val_take l hlt)
      have H2 := Lib.hid (val_seg_succ L o (k := k) (by omega))
      have hkm : (k : Int) < (m : Int) := by omega
      clear hc
      generalize gd l k = x at *
      generalize gd L (o + k) = z at *
      have HS := Lib.hid hS
      have HV := Lib.hid hv
      clear hv hS
      go_wp2_with fail
      go_roundw
      case rel =>
        have et : (z + x + r) % 4294967296 < 4294967296 := Nat.mod_lt _ (by decide)
        refine ⟨k + 1, S ++ [(z + x + r) % 4294967296], (z + x + r) / 4294967296, by omega, by go_num, by go_num, by omega, by simp [HS.out], words_snoc hSw et, ?_, ?_, hO.set_ (.inl rfl) _⟩
        · rw [val_snoc, HS.out, H2.out, H1.out, BB_succ]
          exact add_step HV.out rfl
        · have h := hb.set_ (i := o + k) et
          rw [← HS.out] at h ⊢
          rw [spl_set _ (by rw [HS.out]; omega)] at h
          exact h
      case measure => simp [intOf]; omega
    · have he : k = l.length := by omega
      subst he
      rw [List.take_length] at hv
      have hnl : ¬ (l.length : Int) < (l.length : Int) := by omega
      have HS0 := Lib.hid hS
      have HV0 := Lib.hid hv
      clear hS hv hk hlt hl
      obtain ⟨wo, hwo⟩ : ∃ wo : World, wo = wr := ⟨_, rfl⟩
      rw [← hwo] at hb hO ⊢
      clear hwo
      go_wp2_with fail
      go_loopw [4, 8] (fun cv iv wr => ∃ (k : Nat) (S : List Nat) (r : Nat), k ≤ m ∧ iv = .int .i64 k ∧ cv = .int .u64 (r : Int) ∧ r ≤ 1 ∧ S.length = k ∧ (∀ x ∈ S, x < 4294967296) ∧ Hid (val S + BB k * r = val (seg L o k) + val l) ∧ Blk wr g (spl L o S) ∧ Only g w wr) (fun _ iv _ => m - (intOf iv).toNat)
      case atStart => exact ⟨l.length, S, r, hm, rfl, rfl, hr, HS0.out, hSw, HV0, hb, hO⟩
      case round =>
        obtain ⟨k, S, r, hk, rfl, rfl, hr, hS, hSw, hv, hb, hO⟩ := hrel
        rcases Nat.eq_zero_or_pos r with rfl | hr0
        · go_wp2_with fail
          go_end0
          exact ⟨S, rfl, by omega, hSw, by have := hv.out; rw [Nat.mul_zero, Nat.add_zero] at this; rw [hS]; exact this, hb, hO⟩
        · obtain rfl : r = 1 := by omega
          clear hr0 hr
          have hkm : k < m := by
            rcases Nat.lt_or_ge k m with h | h
            · exact h
            · have he : k = m := by omega
              subst he
              have := full_zero hv.out HF.out
              omega
          have hkmi : (k : Int) < (m : Int) := by omega
          have hc2 := hb.cell (i := o + k) (by rw [spl_length (by omega)]; omega)
          have hf2 := hb.free (o + k)
          rw [spl_get (by omega) (by omega)] at hc2
          have hz := getD_lt hg.1 (o + k)
          have H2 := Lib.hid (val_seg_succ L o (k := k) (by omega))
          generalize gd L (o + k) = z at *
          have HS := Lib.hid hS
          clear hS
          go_wp2_with fail
          go_roundw
          case rel =>
            have et : (z + 1) % 4294967296 < 4294967296 := Nat.mod_lt _ (by decide)
            refine ⟨k + 1, S ++ [(z + 1) % 4294967296], (z + 1) / 4294967296, by omega, by go_num, by go_num, by omega, by simp [HS.out], words_snoc hSw et, Lib.hid ?_, ?_, hO.set_ (.inl rfl) _⟩
            · rw [val_snoc, HS.out, H2.out, BB_succ]
              have := add_step (x := 0) hv.out (t := z + 1) (z := z) (by omega)
              omega
            · have h := hb.set_ (i := o + k) et
              rw [← HS.out] at h ⊢
              rw [spl_set _ (by rw [HS.out]; omega)] at h
              exact h
          case measure => simp [intOf]; omega
end Go.Proofs.YtaaipcjbmdbndaaDoor
