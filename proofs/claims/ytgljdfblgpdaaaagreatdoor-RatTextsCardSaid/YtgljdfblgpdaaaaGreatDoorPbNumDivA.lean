import Derived.Deep.RegionLaw
import Derived.Test.YtgljdfblgpdaaaaGreatDoorPbNumMacB
set_option linter.unusedSimpArgs false
set_option linter.unusedVariables false
set_option maxRecDepth 100000
set_option maxHeartbeats 4000000
namespace Go.Proofs.YtgljdfblgpdaaaaGreatDoor
open Go.RowKit
variable {D K R T c high i m n next o q r0 s t u3 v2 vl vr x y z : Nat} {L S l : List Nat}
theorem knu_lo (hD : D = vl + K * v2) (hR : R = vr + K * u3) (hvr : vr < K) (h : T * D ≤ R) : T * v2 ≤ u3 := by
 have h1 : K * (T * v2) ≤ T * D := by
  rw [hD, Nat.mul_add, Nat.mul_left_comm]; exact Nat.le_add_left _ _
 have h2 : K * (T * v2) < K * (u3 + 1) := by rw [Nat.mul_add]; omega
 have := Nat.lt_of_mul_lt_mul_left h2
 omega
theorem knu_lo2 (h0 : r0 < 4294967296) (h : T * (next + 4294967296 * high) ≤ r0 + 4294967296 * t) : T * high ≤ t := by
 rw [Nat.mul_add, Nat.mul_left_comm] at h
 generalize T * high = a at *
 omega
theorem knu_hi (hD : D = vl + K * v2) (hR : R = vr + K * u3) (hvl : vl < K) (h : q * v2 ≤ u3) (hq : q ≤ v2 + 1) : (q - 1) * D ≤ R := by
 rcases Nat.eq_zero_or_pos q with rfl | hq0
 ·simp
 ·have h1 : D ≤ K * (v2 + 1) := by rw [hD, Nat.mul_add]; omega
  have h2 : (q - 1) * D ≤ (q - 1) * (K * (v2 + 1)) := Nat.mul_le_mul_left _ h1
  have h3 : (q - 1) * (v2 + 1) ≤ q * v2 := by
   obtain ⟨p, rfl⟩ : ∃ p, q = p + 1 := ⟨q - 1, by omega⟩
   rw [Nat.add_sub_cancel, Nat.mul_add, Nat.add_mul]
   omega
  have h4 : (q - 1) * (K * (v2 + 1)) = K * ((q - 1) * (v2 + 1)) := by rw [Nat.mul_left_comm]
  have h5 := Nat.mul_le_mul_left K (Nat.le_trans h3 h)
  omega
theorem knu_step {T q high next r r0 t : Nat} (hT : T * (next + 4294967296 * high) ≤ r0 + 4294967296 * t) (ht : q * high + r = t) (hTq : T ≤ q) (hbig : r0 + 4294967296 * r < q * next) : T + 1 ≤ q := by
 rcases Nat.lt_or_ge T q with h | h
 ·exact h
 ·obtain rfl : T = q := by omega
  rw [Nat.mul_add, Nat.mul_left_comm, ← ht, Nat.mul_add] at hT
  omega
theorem top_words (h : l.length = m + 2) : val l = val (l.take m) + BB m * (gd l m + 4294967296 * gd l (m + 1)) := by
 have h1 := val_take l (k := m) (by omega)
 have h2 := val_take l (k := m + 1) (by omega)
 rw [show m + 1 + 1 = l.length by omega, List.take_length] at h2
 rw [h2, h1, BB_succ, Nat.mul_add, Nat.mul_assoc]
 omega
theorem top_words3 (h : l.length = m + 3) : val l = val (l.take m) + BB m * (gd l m + 4294967296 * (gd l (m + 1) + 4294967296 * gd l (m + 2))) := by
 have h1 := val_take l (k := m) (by omega)
 have h2 := val_take l (k := m + 1) (by omega)
 have h3 := val_take l (k := m + 2) (by omega)
 rw [show m + 2 + 1 = l.length by omega, List.take_length] at h3
 rw [h3, h2, h1, BB_succ, show m + 2 = m + 1 + 1 by omega, BB_succ, BB_succ]
 simp only [Nat.mul_add, Nat.mul_assoc]
 omega
theorem cell_b {W W' : World} {a : Addr} {v : Value} (h : W.cell? a = some v) (hb : Below W.heap.size W W') : W'.cell? a = some v :=
 (World.cell?_of_block (hb.block _ (World.block_lt_of_cell? W a h))).trans h
def GuessP (T : Nat) (w : World) (e : Ending) (w' : World) : Prop := ∃ q : Nat, e = .returned (.int .u32 (q : Int)) ∧ T ≤ q ∧ q ≤ T + 1 ∧ q < 4294967296 ∧ Below w.heap.size w w'
theorem guess_any (A B : Option Addr) (m c d : Nat) (r l : List Nat) (T : Nat) (w : World) (hr : r.length = m + 3) (hl : l.length = m + 2) (hm : m ≤ 1000000) (hwr : WS w A r) (hwl : WS w B l) (htop : 2147483648 ≤ gd l (m + 1)) (hfit : val r < 4294967296 * val l) (hT : T = val r / val l) :
  Calls Tryz.prog 189 #[.slice A (m + 3) c, .slice B (m + 2) d] w (GuessP T w) := by
 have hD := top_words hl
 have hR := top_words3 hr
 have hvl := val_lt (words_take hwl.1 m)
 have hvr := val_lt (words_take hwr.1 m)
 rw [List.length_take, Nat.min_eq_left (by omega)] at hvl hvr
 have hDpos : 0 < val l := Nat.pos_of_ne_zero (fun h => by rw [h] at hfit; omega)
 have hTD : T * val l ≤ val r := by rw [hT]; exact Nat.div_mul_le_self _ _
 have hlo := knu_lo hD hR hvr hTD
 have hr0 := hwr.lt m
 have hlo2 := knu_lo2 hr0 hlo
 have hTB : T < 4294967296 := by rw [hT]; exact Nat.div_lt_of_lt_mul (by rw [Nat.mul_comm]; exact hfit)
 have hup : ∀ q, q * (gd l m + 4294967296 * gd l (m + 1)) ≤ gd r m + 4294967296 * (gd r (m + 1) + 4294967296 * gd r (m + 2)) → q < 4294967296 → q ≤ T + 1 := fun q h hq => by
  have h1 := knu_hi hD hR hvl h (by omega)
  have h2 : q - 1 ≤ T := by rw [hT]; exact (Nat.le_div_iff_mul_le hDpos).2 h1
  omega
 have HUP := Hi hup
 have HLO := Hi hlo
 have HLO2 := Hi hlo2
 obtain ⟨b1, o1, rfl, hb1, hc1⟩ := hwr.at_ (by omega)
 obtain ⟨b2, o2, rfl, hb2, hc2⟩ := hwl.at_ (by omega)
 have r0 := hc1 m (by omega)
 have r1 := hc1 (m + 1) (by omega)
 have r2 := hc1 (m + 2) (by omega)
 have l0 := hc2 m (by omega)
 have l1 := hc2 (m + 1) (by omega)
 have hr1 := hwr.lt (m + 1)
 have hr2 := hwr.lt (m + 2)
 have hl0 := hwl.lt m
 have hl1 := hwl.lt (m + 1)
 clear hc1 hc2 hD hR hvl hvr hDpos hTD hlo hlo2 hup hT hfit hr hl
 generalize gd r m = x0 at *
 generalize gd r (m + 1) = x1 at *
 generalize gd r (m + 2) = x2 at *
 generalize gd l m = y0 at *
 generalize gd l (m + 1) = y1 at *
 obtain ⟨t, ht⟩ : ∃ t, t = x1 + 4294967296 * x2 := ⟨_, rfl⟩
 have hor : bits BinOp.or IntKind.u64 ((x2 : Int) * 4294967296) (x1 : Int) = (t : Int) := by rw [ht]; exact or64' x1 x2 hr1 hr2
 rw [← ht] at HLO HLO2 HUP
 have htl : t < 18446744073709551616 := by omega
 clear ht
 obtain ⟨Q, hQ⟩ : ∃ Q, Q = t / y1 := ⟨_, rfl⟩
 have hQi : (t : Int) / (y1 : Int) = (Q : Int) := by rw [hQ]; simp
 have hTQ : T ≤ Q := by rw [hQ]; exact (Nat.le_div_iff_mul_le (by omega)).2 HLO2.out
 have hQt : Q * y1 ≤ t := by rw [hQ]; exact Nat.div_mul_le_self _ _
 have hQl : Q < 18446744073709551616 := Nat.lt_of_le_of_lt (by rw [hQ]; exact Nat.div_le_self _ _) htl
 have hy10 : (y1 : Int) ≠ 0 := by omega
 have hy1b : ((y1 : Int) == 0) = false := beq_eq_false_iff_ne.2 hy10
 clear hQ
 obtain ⟨q0, p0, hmin, hq0c, hTq0, hq0l, hp0, hp0t⟩ : ∃ q0 p0 : Nat, min (Q : Int) 4294967295 = (q0 : Int) ∧ ((Q : Int) ≤ 4294967295 ∧ q0 = Q ∨ (4294967295 : Int) < (Q : Int) ∧ q0 = 4294967295) ∧ T ≤ q0 ∧ q0 ≤ 4294967295 ∧ p0 = q0 * y1 ∧ p0 ≤ t := by
  rcases Nat.lt_or_ge 4294967295 Q with h | h
  ·exact ⟨4294967295, _, by omega, .inr ⟨by omega, rfl⟩, by omega, Nat.le_refl _, rfl, Nat.le_trans (Nat.mul_le_mul_right y1 (Nat.le_of_lt h)) hQt⟩
  ·exact ⟨Q, _, by omega, .inl ⟨by omega, rfl⟩, hTQ, h, rfl, hQt⟩
 clear hQt hTQ
 have hpi0 : (q0 : Int) * (y1 : Int) = (p0 : Int) := by rw [hp0]; simp
 have HP0 := Hi hp0
 clear hp0
 rcases hq0c with ⟨hqc, rfl⟩ | ⟨hqc, rfl⟩
 all_goals
  go_enter Tryz.func189, Tryz.ntmps189
  go_wp2_with fail
  go_quiet (fail)
  go_wp2_with fail
  go_quiet (fail)
  go_wp2_with fail
  go_loopw [9, 10] (fun qv rv wr => ∃ q r : Nat, qv = .int .u64 (q : Int) ∧ rv = .int .u64 (r : Int) ∧ q ≤ 4294967295 ∧ T ≤ q ∧ Hid (q * y1 + r = t) ∧ r < 18446744073709551616 ∧ Below w.heap.size w wr) (fun qv _ _ => (intOf qv).toNat)
  case atStart =>
   refine ⟨_, t - p0, rfl, ?_, hq0l, hTq0, Hi (by rw [← HP0.out]; omega), by omega, by first | exact bd (bd (b0 _) _) _ | exact bd (b0 _) _ | exact b0 _⟩
   go_num
  case round =>
   obtain ⟨q, r, rfl, rfl, hq, hTq, hqr, hrl, hb⟩ := hrel
   have c0 := cell_b r0 hb
   by_cases hrB : r < 4294967296
   ·have hrBi : (r : Int) < 4294967296 := by omega
    have hor2 : bits BinOp.or IntKind.u64 ((r : Int) * 4294967296) (x0 : Int) = ((x0 + 4294967296 * r : Nat) : Int) := or64' x0 r hr0 hrB
    obtain ⟨s, hs⟩ : ∃ s, s = x0 + 4294967296 * r := ⟨_, rfl⟩
    obtain ⟨p, hp⟩ : ∃ p, p = q * y0 := ⟨_, rfl⟩
    have hpi : (q : Int) * (y0 : Int) = (p : Int) := by rw [hp]; simp
    have hpl : p ≤ 18446744065119617025 := by rw [hp]; exact Nat.mul_le_mul hq (Nat.le_of_lt_succ hl0)
    rw [← hs] at hor2
    have HS := Hi hs
    have HP := Hi hp
    clear hs hp
    by_cases hbig : s < p
    ·have hbigi : (s : Int) < (p : Int) := by omega
     have hstep : T + 1 ≤ q := knu_step HLO.out hqr.out hTq (by rw [← HS.out, ← HP.out]; exact hbig)
     go_wp2_with fail
     go_roundw
     case rel =>
      refine ⟨q - 1, r + y1, by go_num, by go_num, by omega, by omega, Hi ?_, by omega, hb⟩
      have h1 := hqr.out
      obtain ⟨q', rfl⟩ : ∃ q', q = q' + 1 := ⟨q - 1, by omega⟩
      rw [Nat.add_mul] at h1
      rw [Nat.add_sub_cancel]
      omega
     case measure => simp [intOf]; omega
    ·have hbigi : ¬ (s : Int) < (p : Int) := by omega
     go_wp2_with fail
     go_ret
     refine ⟨q, rfl, hTq, HUP.out q ?_ (by omega), by omega, hb⟩
     rw [Nat.mul_add, Nat.mul_left_comm, ← HP.out]
     have h1 := hqr.out
     have h2 := HS.out
     generalize q * y1 = qy at *
     omega
   ·have hrBi : ¬ (r : Int) < 4294967296 := by omega
    go_wp2_with fail
    go_ret
    refine ⟨q, rfl, hTq, HUP.out q ?_ (by omega), by omega, hb⟩
    have hpl : q * y0 ≤ 18446744065119617025 := Nat.mul_le_mul hq (Nat.le_of_lt_succ hl0)
    rw [Nat.mul_add, Nat.mul_left_comm]
    have h1 := hqr.out
    generalize q * y1 = qy at *
    generalize q * y0 = qz at *
    omega
open Go.RowKit
variable {D K R T c high i m n next o q r0 s t u3 v2 vl vr x y z : Nat} {L S l : List Nat}
def SubP (g o q : Nat) (L l : List Nat) (w : World) (e : Ending) (w' : World) : Prop :=
 ∃ (S : List Nat) (b : Bool), e = .returned (.bool b) ∧ S.length = l.length + 1 ∧ (∀ x ∈ S, x < 4294967296) ∧ val S + q * val l = val (seg L o (l.length + 1)) + (if b then BB (l.length + 1) else 0) ∧ Blk w' g (spl L o S) ∧ Only g w w'
theorem sub_step {vS K c q vs vl x z u t : Nat} (hv : vS + q * vl = vs + K * c) (ht : t = x * q + c) (hu : u + t % 4294967296 = z + (if z < t % 4294967296 then 4294967296 else 0)) :
  vS + K * u + q * (vl + K * x) = vs + K * z + K * 4294967296 * (t / 4294967296 + if z < t % 4294967296 then 1 else 0) := by
 have h0 : 4294967296 * (t / 4294967296) + t % 4294967296 = t := Nat.div_add_mod _ _
 have h1 : K * u + K * (t % 4294967296) = K * z + K * (if z < t % 4294967296 then 4294967296 else 0) := by rw [← Nat.mul_add, hu, Nat.mul_add]
 have h2 : K * 4294967296 * (t / 4294967296) + K * (t % 4294967296) = K * (x * q) + K * c := by
  rw [Nat.mul_assoc, ← Nat.mul_add, h0, ht, Nat.mul_add]
 have h3 : q * (vl + K * x) = q * vl + K * (x * q) := by rw [Nat.mul_add, Nat.mul_left_comm, Nat.mul_comm q x]
 rw [h3, Nat.mul_add]
 split at h1 <;> split <;> simp_all <;> omega
theorem u32_sub (hz : z < 4294967296) (hy : y < 4294967296) (h : z < y) : IntKind.u32.wrap ((z : Int) - (y : Int)) = ((z + 4294967296 - y : Nat) : Int) := by
 simp [IntKind.wrap, IntKind.signed, IntKind.bits]
 omega
theorem subRow_any (g o d : Nat) (L : List Nat) (A : Option Addr) (c : Nat) (l : List Nat) (q : Nat) (w : World) (hm2 : l.length ≤ 1000000) (hL : o + (l.length + 1) ≤ L.length) (hq : q < 4294967296) (h0 : 0 < l.length)
  (hg : Blk w g L) (hl : WS w A l) (ho : Off A l g) :
  Calls Tryz.prog 190 #[.slice (some ⟨g, o, none⟩) (l.length + 1) d, .slice A l.length c, .int .u32 (q : Int)] w (SubP g o q L l w) := by
 go_enter Tryz.func190, Tryz.ntmps190
 go_wp2_with fail
 go_loopw [7, 14] (fun cv iv wr => ∃ (k : Nat) (S : List Nat) (r : Nat), k ≤ l.length ∧ iv = .int .i64 k ∧ cv = .int .u64 (r : Int) ∧ r < 4294967296 ∧ S.length = k ∧ (∀ x ∈ S, x < 4294967296) ∧ val S + q * val (l.take k) = val (seg L o k) + BB k * r ∧ Blk wr g (spl L o S) ∧ Only g w wr) (fun _ iv _ => l.length - (intOf iv).toNat)
 case atStart => exact ⟨0, [], 0, Nat.zero_le _, rfl, rfl, by omega, rfl, by simp, by simp [seg_zero, val], by rw [spl_nil]; exact hg, only_refl _ _⟩
 case round =>
  obtain ⟨k, S, r, hk, rfl, rfl, hr, hS, hSw, hv, hb, hO⟩ := hrel
  by_cases hlt : k < l.length
  ·obtain ⟨b, off, rfl, hblt, hc⟩ := (hl.only hO ho).at_ (by omega)
   have hc1 := hc k hlt
   have hc2 := hb.cell (i := o + k) (by rw [spl_length (by omega)]; omega)
   have hf2 := hb.free (o + k)
   rw [spl_get (by omega) (by omega)] at hc2
   have hx := hl.lt k
   have hz := getD_lt hg.1 (o + k)
   have H1 := Hi (val_take l hlt)
   have H2 := Hi (val_seg_succ L o (k := k) (by omega))
   have hki : (k : Int) < ((l.length : Int) + 1) := by omega
   have hkj : (k : Int) < (l.length : Int) := by omega
   clear hc
   generalize gd l k = x at *
   generalize gd L (o + k) = z at *
   have hxy := Nat.mul_le_mul (Nat.le_of_lt_succ hx) (Nat.le_of_lt_succ hq)
   obtain ⟨p, hp⟩ : ∃ p, p = x * q := ⟨_, rfl⟩
   have hpi : (x : Int) * (q : Int) = (p : Int) := by rw [hp]; simp
   have hpl : p ≤ 18446744065119617025 := by omega
   obtain ⟨t, ht⟩ : ∃ t, t = p + r := ⟨_, rfl⟩
   have hti : (p : Int) + (r : Int) = (t : Int) := by omega
   have htl : t ≤ 18446744069414584320 := by omega
   obtain ⟨t0, ht0⟩ : ∃ t0, t0 = t % 4294967296 := ⟨_, rfl⟩
   obtain ⟨t1, ht1⟩ : ∃ t1, t1 = t / 4294967296 := ⟨_, rfl⟩
   have ht0i : (t : Int) % 4294967296 = (t0 : Int) := by omega
   have ht1i : (t : Int) / 4294967296 = (t1 : Int) := by omega
   have ht0l : t0 < 4294967296 := by omega
   have ht1l : t1 < 4294967296 := by omega
   have ht1s : z < t0 → t1 + 1 < 4294967296 := by omega
   have HT1S := Hi ht1s
   have HP := Hi hp
   have HT := Hi ht
   have HT0 := Hi ht0
   have HT1 := Hi ht1
   have HS := Hi hS
   have HV := Hi hv
   clear hp hxy hv hS ht ht0 ht1 ht1s
   by_cases hzt : z < t0
   ·have hzti : (z : Int) < (t0 : Int) := by omega
    have hwr := u32_sub hz ht0l hzt
    obtain ⟨u, hu⟩ : ∃ u, u = z + 4294967296 - t0 := ⟨_, rfl⟩
    rw [← hu] at hwr
    have hul : u < 4294967296 := by omega
    have HU : Hid (u + t0 = z + 4294967296) := Hi (by omega)
    have ht1t := HT1S.out hzt
    clear hu
    go_wp2_with fail
    go_roundw
    case rel =>
     refine ⟨k + 1, S ++ [u], t1 + 1, by omega, by go_num, by go_num, by omega, by simp [HS.out], words_snoc hSw hul, ?_, ?_, hO.set_ (.inl rfl) _⟩
     ·rw [val_snoc, HS.out, H2.out, H1.out, BB_succ]
      have h := sub_step (u := u) (z := z) HV.out (show t = x * q + r by rw [HT.out, HP.out]) (by rw [← HT0.out, if_pos hzt]; exact HU.out)
      rw [← HT0.out, if_pos hzt, ← HT1.out] at h
      exact h
     ·have h := hb.set_ (i := o + k) hul
      exact m638c3
    case measure => simp [intOf]; omega
   ·have hzti : ¬ (z : Int) < (t0 : Int) := by omega
    go_wp2_with fail
    go_roundw
    case rel =>
     have hul : z - t0 < 4294967296 := by omega
     refine ⟨k + 1, S ++ [z - t0], t1, by omega, by go_num, by go_num, by omega, by simp [HS.out], words_snoc hSw hul, ?_, ?_, hO.set_ (.inl rfl) _⟩
     ·rw [val_snoc, HS.out, H2.out, H1.out, BB_succ]
      have h := sub_step (u := z - t0) (z := z) HV.out (show t = x * q + r by rw [HT.out, HP.out]) (by rw [← HT0.out, if_neg hzt]; omega)
      rw [← HT0.out, if_neg hzt, ← HT1.out, Nat.add_zero] at h
      exact h
     ·have h := hb.set_ (i := o + k) hul
      rw [← HS.out] at h ⊢
      rw [spl_set _ (by rw [HS.out]; omega)] at h
      have e : ((z - t0 : Nat) : Int) = (z : Int) - (t0 : Int) := by omega
      rw [e] at h
      exact h
    case measure => simp [intOf]; omega
  ·have he : k = l.length := by omega
   subst he
   rw [List.take_length] at hv
   have hc2 := hb.cell (i := o + l.length) (by rw [spl_length (by omega)]; omega)
   have hf2 := hb.free (o + l.length)
   rw [spl_get (by omega) (by omega)] at hc2
   have hz := getD_lt hg.1 (o + l.length)
   have H2 := Hi (val_seg_succ L o (k := l.length) (by omega))
   generalize gd L (o + l.length) = z at *
   have HS := Hi hS
   have HV := Hi hv
   clear hS hv
   have fin : ∀ u : Nat, u < 4294967296 → ∀ b : Bool, u + r = z + (if b then 4294967296 else 0) → Blk (wr.setCell ⟨g, o + l.length, none⟩ (.int .u32 (u : Int))) g (spl L o (S ++ [u])) ∧ val (S ++ [u]) + q * val l = val (seg L o (l.length + 1)) + (if b then BB (l.length + 1) else 0) := fun u hu b hbz => by
    refine ⟨?_, ?_⟩
    ·have h := hb.set_ (i := o + l.length) hu
     exact m638c3
    ·rw [val_snoc, HS.out, H2.out, BB_succ]
     have h1 := HV.out
     have h2 : BB l.length * u + BB l.length * r = BB l.length * z + BB l.length * (if b then 4294967296 else 0) := by rw [← Nat.mul_add, hbz, Nat.mul_add]
     cases b <;> simp at h2 ⊢ <;> omega
   have HFIN := Hi fin
   clear fin
   by_cases hzr : z < r
   ·have hzri : (z : Int) < (r : Int) := by omega
    have hwr := u32_sub hz hr hzr
    obtain ⟨u, hu⟩ : ∃ u, u = z + 4294967296 - r := ⟨_, rfl⟩
    rw [← hu] at hwr
    have hul : u < 4294967296 := by omega
    have HU : Hid (u + r = z + 4294967296) := Hi (by omega)
    clear hu
    go_wp2_with fail
    go_ret
    have h := HFIN.out u hul true HU.out
    exact ⟨S ++ [u], true, rfl, by simp [HS.out], words_snoc hSw hul, h.2, h.1, hO.set_ (.inl rfl) _⟩
   ·have hzri : ¬ (z : Int) < (r : Int) := by omega
    go_wp2_with fail
    go_ret
    have hul : z - r < 4294967296 := by omega
    have h := HFIN.out (z - r) hul false (by simp; omega)
    have e : ((z - r : Nat) : Int) = (z : Int) - (r : Int) := by omega
    rw [e] at h
    exact ⟨S ++ [z - r], false, rfl, by simp [HS.out], words_snoc hSw hul, h.2, h.1, hO.set_ (.inl rfl) _⟩
theorem addBack_any (g o m d : Nat) (L : List Nat) (A : Option Addr) (n c : Nat) (l : List Nat) (w : World) (hn : l.length = n) (hm : n ≤ m) (hm2 : m ≤ 4000000) (hL : o + m ≤ L.length)
  (hg : Blk w g L) (hl : WS w A l) (ho : Off A l g) :
  Calls Tryz.prog 191 #[.slice (some ⟨g, o, none⟩) m d, .slice A n c] w fun e w' =>
   ∃ (S : List Nat) (r : Nat), e = .returned (.int .u32 (r : Int)) ∧ r < 4294967296 ∧ S.length = n ∧ (∀ x ∈ S, x < 4294967296) ∧ val S + BB n * r = val (seg L o n) + val l ∧ Blk w' g (spl L o S) ∧ Only g w w' := by
 go_enter Tryz.func191, Tryz.ntmps191
 go_wp2_with fail
 refine (addRow_any g o m d L A n c l 1 w hn hm hm2 hL (by decide) hg hl ho).mono ?_
 rintro e w' ⟨S, r, rfl, hr, hS, hSw, hv, hb, hO⟩
 have HV := Hi hv
 have HS := Hi hS
 clear hv hS
 go_wp2_with fail
 go_ret
 exact ⟨S, r, rfl, hr, HS.out, hSw, by rw [HV.out, Nat.one_mul], hb, hO⟩
open Go.RowKit
variable {D K R T c high i m n next o q r0 s t u3 v2 vl vr x y z : Nat} {L S l : List Nat}
def RedP (g o : Nat) (L l : List Nat) (w : World) (e : Ending) (w' : World) : Prop :=
 ∃ S : List Nat, e = .returned (.int .u32 ((val (seg L o (l.length + 1)) / val l : Nat) : Int)) ∧ S.length = l.length + 1 ∧ (∀ x ∈ S, x < 4294967296) ∧ val S = val (seg L o (l.length + 1)) % val l ∧ Blk w' g (spl L o S) ∧ Only g w w'
theorem red_exact (hD : 0 < D) (hq : R / D ≤ q) (h : s + q * D = R) : q = R / D ∧ s = R % D := by
 have h1 : q ≤ R / D := (Nat.le_div_iff_mul_le hD).2 (by omega)
 have h2 : q = R / D := by omega
 have h3 := Nat.div_add_mod R D
 rw [Nat.mul_comm, ← h2] at h3
 exact ⟨h2, by omega⟩
theorem red_back {R D q s B : Nat} (hD : 0 < D) (hq2 : q ≤ R / D + 1) (hs : s < B) (h : s + q * D = R + B) : q = R / D + 1 ∧ s + D = B + R % D := by
 have h0 : R < q * D := by omega
 have h1 : R / D < q := (Nat.div_lt_iff_lt_mul hD).2 h0
 have h2 : q = R / D + 1 := by omega
 have h3 := Nat.div_add_mod R D
 rw [h2, Nat.add_mul, Nat.mul_comm (R / D)] at h
 exact ⟨h2, by omega⟩
theorem spl_twice {S S' : List Nat} (hL : o + S.length ≤ L.length) (h : S'.length ≤ S.length) : spl (spl L o S) o S' = spl L o (S' ++ S.drop S'.length) := by
 unfold spl
 have h1 : (L.take o ++ S ++ L.drop (o + S.length)).take o = L.take o := by
  rw [List.append_assoc, List.take_append_of_le_length (by simp; omega), List.take_of_length_le (by rw [List.length_take]; omega)]
 have h2 : (L.take o ++ S ++ L.drop (o + S.length)).drop (o + S'.length) = S.drop S'.length ++ L.drop (o + S.length) := by
  rw [List.append_assoc, List.drop_append, List.drop_eq_nil_of_le (by simp; omega), List.length_take, Nat.min_eq_left (by omega), Nat.add_sub_cancel_left, List.nil_append, List.drop_append_of_le_length h]
 rw [h1, h2]
 simp
 omega
theorem seg_own (hL : o + S.length ≤ L.length) (hn : n ≤ S.length) : seg (spl L o S) o n = S.take n := by
 have h := seg_spl hL
 have : seg (spl L o S) o n = (seg (spl L o S) o S.length).take n := by
  unfold seg; rw [List.take_take, Nat.min_eq_left hn]
 rw [this, h]
theorem gd_own {o j : Nat} (hL : o + S.length ≤ L.length) (hj : j < S.length) : gd (spl L o S) (o + j) = gd S j := by
 have h := seg_spl hL
 rw [← gd_drop]
 have e : gd ((spl L o S).drop o) j = gd (seg (spl L o S) o S.length) j := by unfold seg; rw [gd_take hj]
 rw [e, h]
theorem u32_add (hx : x < 4294967296) (hy : y < 4294967296) : IntKind.u32.wrap ((x : Int) + (y : Int)) = (((x + y) % 4294967296 : Nat) : Int) := by
 simp [IntKind.wrap, IntKind.signed, IntKind.bits]
theorem red_fin {K s3 r3 top v vS D R : Nat} (h1 : s3 + K * r3 = v + D) (h2 : vS = v + K * top) (h3 : vS + D = K * 4294967296 + R) (hs : s3 < K) (hR : R < K) : top + r3 = 4294967296 ∧ s3 = R := by
 have hK : 0 < K := by omega
 have e : s3 + K * (top + r3) = R + K * 4294967296 := by rw [Nat.mul_add]; omega
 have e1 := congrArg (· / K) e
 simp only [Nat.add_mul_div_left _ _ hK, Nat.div_eq_of_lt hs, Nat.div_eq_of_lt hR, Nat.zero_add] at e1
 rw [e1] at e
 exact ⟨e1, by omega⟩
theorem reduce_any (g o d m : Nat) (L : List Nat) (A : Option Addr) (c : Nat) (l : List Nat) (w : World) (hm : l.length = m + 2) (hm2 : m ≤ 500000) (hL : o + (m + 3) ≤ L.length) (htop : 2147483648 ≤ gd l (m + 1)) (hfit : val (seg L o (m + 3)) < 4294967296 * val l)
  (hg : Blk w g L) (hl : WS w A l) (ho : Off A l g) :
  Calls Tryz.prog 174 #[.slice (some ⟨g, o, none⟩) (m + 3) d, .slice A (m + 2) c] w (RedP g o L l w) := by
 have hDpos : 0 < val l := Nat.pos_of_ne_zero (fun h => by rw [h] at hfit; omega)
 have hDlt := val_lt hl.1
 have HD := Hi hDpos
 have HDL := Hi hDlt
 have HM := Hi hm
 have hsegw : WS w (some ⟨g, o, none⟩) (seg L o (m + 3)) := hg.ws hL
 have hsegl : (seg L o (m + 3)).length = m + 3 := seg_length hL
 obtain ⟨T, hT⟩ : ∃ T, T = val (seg L o (m + 3)) / val l := ⟨_, rfl⟩
 have HT := Hi hT
 have hTB : T < 4294967296 := by rw [hT]; exact Nat.div_lt_of_lt_mul (by rw [Nat.mul_comm]; exact hfit)
 have hgs := guess_any (some ⟨g, o, none⟩) A m d c (seg L o (m + 3)) l T w hsegl hm (by omega) hsegw hl htop hfit hT
 have HGS := Hi hgs
 clear hDpos hDlt hm hT hgs hfit hsegl
 go_enter Tryz.func174, Tryz.ntmps174
 go_wp2_with fail
 refine HGS.out.mono ?_
 rintro e w1 ⟨q, rfl, hq1, hq2, hq3, hb1⟩
 go_wp2_with fail
 have hsub := subRow_any g o d L A c l q w1 (by rw [HM.out]; omega) (by rw [HM.out]; exact hL) hq3 (by rw [HM.out]; omega) (hg.below hb1) (hl.below hb1) ho
 rw [HM.out] at hsub
 refine hsub.mono ?_
 rintro e w2 ⟨S, b, rfl, hS, hSw, hv, hb2, hO2⟩
 rw [HM.out] at hS hv
 have HS := Hi hS
 have hO12 := (Only.mono (g := g) hb1).trans hO2
 have hl2 := (hl.below hb1).only hO2 ho
 clear hsub hS
 cases b
 ·have h := red_exact HD.out (by rw [← HT.out]; exact hq1) (by simpa using hv)
  have HR := Hi h
  clear hv h
  go_wp2_with fail
  go_ret
  refine ⟨S, ?_, by rw [HM.out]; exact HS.out, hSw, by rw [HM.out]; exact HR.out.2, hb2, hO12⟩
  show Ending.returned (.int .u32 (q : Int)) = _
  rw [HM.out, ← HR.out.1]
 ·have hSlt := val_lt hSw
  rw [HS.out] at hSlt
  have h := red_back HD.out (by rw [← HT.out]; exact hq2) hSlt (by simpa using hv)
  have HR := Hi h
  have hqT : q = T + 1 := by rw [h.1, HT.out]
  clear hv h hSlt
  subst hqT
  have hspl : (spl L o S).length = L.length := spl_length (by rw [HS.out]; omega)
  have hcell := hb2.cell (i := o + (m + 2)) (by rw [hspl]; omega)
  have hfree := hb2.free (o + (m + 2))
  rw [gd_own (by rw [HS.out]; omega) (by rw [HS.out]; omega)] at hcell
  have htopS := getD_lt hSw (m + 2)
  obtain ⟨top, htp⟩ : ∃ top, top = gd S (m + 2) := ⟨_, rfl⟩
  rw [← htp] at hcell htopS
  have HTP := Hi htp
  have HSPL := Hi hspl
  have hq1b : 1 ≤ T + 1 := by omega
  have hi0 : (0 : Int) ≤ (m : Int) + 2 := by omega
  have hi1 : (m : Int) + 2 < (m : Int) + 3 := by omega
  have hi2 : ((m : Int) + 2).toNat = m + 2 := by omega
  have hi3 : ¬ ((m : Int) + 2 < 0) := by omega
  clear htp hspl
  go_wp2_with fail
  go_region_law (first
   | (go_simp; go_at_call 191; refine (addBack_any g o (m + 3) d (spl L o S) A (m + 2) c l _ HM.out (by omega) (by omega) (by rw [HSPL.out]; exact hL) (hb2.below (by first | exact bw (b0 _) | exact b0 _)) (hl2.below (by first | exact bw (b0 _) | exact b0 _)) ho).mono ?_; rintro e w3 ⟨S3, r3, rfl, hr3, hS3, hS3w, hv3, hb3, hO3⟩; have HS3 := Hi hS3; have HV3 := Hi hv3; have hc3 := hb3.cell (i := o + (m + 2)) (by rw [spl_length (by rw [HSPL.out, HS3.out]; omega), HSPL.out]; omega); have hf3 := hb3.free (o + (m + 2)); rw [spl_get (by rw [HS3.out]; omega) (by rw [HSPL.out, HS3.out]; omega), gd_own (by rw [HS.out]; omega) (by rw [HS.out]; omega), ← HTP.out] at hc3; clear hS3 hv3; have hw3 := u32_add htopS hr3))
  all_goals (go_wp2_with fail)
  all_goals
   go_ret
   have hdm : val (seg L o (m + 3)) % val l < BB (m + 2) := by
    have h1 := HDL.out
    rw [HM.out] at h1
    exact Nat.lt_trans (Nat.mod_lt _ HD.out) h1
   have hv3 := HV3.out
   rw [seg_own (by rw [HS.out]; omega) (by rw [HS.out]; omega)] at hv3
   have hvS := val_take S (k := m + 2) (by rw [HS.out]; omega)
   rw [List.take_of_length_le (by rw [HS.out]; omega), ← HTP.out] at hvS
   have hs3 := val_lt hS3w
   rw [HS3.out] at hs3
   have hfin := red_fin hv3 hvS (by rw [HR.out.2, BB_succ]) hs3 hdm
   have hx : (top + r3) % 4294967296 = 0 := by rw [hfin.1]
   have hset := hb3.set_ (i := o + (m + 2)) (x := (top + r3) % 4294967296) (Nat.mod_lt _ (by decide))
   have e1 : o + (m + 2) = o + S3.length := by rw [HS3.out]
   rw [e1, spl_set _ (by rw [HSPL.out, HS3.out]; omega), spl_twice (by rw [HS.out]; omega) (by simp [HS.out, HS3.out]), ← e1, List.drop_eq_nil_of_le (by simp [HS.out, HS3.out]), List.append_nil] at hset
   refine ⟨S3 ++ [(top + r3) % 4294967296], ?_, by simp [HS3.out, HM.out], words_snoc hS3w (Nat.mod_lt _ (by decide)), ?_, by simpa using hset, (hO12.trans ((only_refl g w2).draw 1 |>.trans hO3)).set_ (.inl rfl) _⟩
   ·rw [HM.out, ← HT.out]; rfl
   ·rw [val_snoc, hx, Nat.mul_zero, Nat.add_zero, HM.out]; exact hfin.2
open Go.RowKit
variable {D K R T c high i m n next o q r0 s t u3 v2 vl vr x y z : Nat} {L S l : List Nat}
theorem top_ge (hl : ∀ x ∈ l, x < 4294967296) (h : l.length = m + 1) (hc : c * BB m ≤ val l) : c ≤ gd l m := by
 have h1 := val_split l m (by omega)
 rw [val_drop_at l (by omega), List.drop_eq_nil_of_le (by omega)] at h1
 have h2 := val_lt (words_take hl m)
 rw [List.length_take, Nat.min_eq_left (by omega)] at h2
 have h3 : val [] = 0 := rfl
 rw [h3, Nat.mul_zero, Nat.add_zero] at h1
 have h4 : BB m * c < BB m * (gd l m + 1) := by rw [Nat.mul_add, Nat.mul_comm (BB m) c]; omega
 exact Nat.le_of_lt_succ (Nat.lt_of_mul_lt_mul_left h4)
theorem long_pre (hL : ∀ x ∈ L, x < 4294967296) (hn : i + n + 1 ≤ L.length) (hD : D < BB n) (h : val (L.drop (i + 1)) < D) :
  val (seg L i (n + 1)) < 4294967296 * D ∧ val (L.drop i) = val (seg L i (n + 1)) ∧ val (L.drop (i + (n + 1))) = 0 := by
 have h1 := val_split (L.drop (i + 1)) n (by rw [List.length_drop]; omega)
 rw [List.drop_drop, show i + 1 + n = i + (n + 1) by omega] at h1
 have h0 : val (L.drop (i + (n + 1))) = 0 := by
  rcases Nat.eq_zero_or_pos (val (L.drop (i + (n + 1)))) with h0 | h0
  ·exact h0
  ·have := Nat.le_mul_of_pos_right (BB n) h0
   omega
 have h2 := val_split (L.drop i) (n + 1) (by rw [List.length_drop]; omega)
 rw [List.drop_drop, h0, Nat.mul_zero, Nat.add_zero] at h2
 have h3 := val_drop_at L (j := i) (by omega)
 have hx := getD_lt hL i
 refine ⟨?_, h2, h0⟩
 have h4 : val (seg L i (n + 1)) = gd L i + 4294967296 * val (L.drop (i + 1)) := by rw [← h3, h2]; rfl
 rw [h4]
 omega
theorem long_step {i n D N Q : Nat} (hL : ∀ x ∈ L, x < 4294967296) (hn : i + n + 1 ≤ L.length) (hS : S.length = n + 1) (hD : D < BB n) (h : val (L.drop (i + 1)) < D) (hN : val L + BB (i + 1) * (Q * D) = N) (hv : val S = val (seg L i (n + 1)) % D) :
  val ((spl L i S).drop i) < D ∧ val (spl L i S) + BB i * ((val (seg L i (n + 1)) / D + 4294967296 * Q) * D) = N := by
 obtain ⟨h1, h2, h3⟩ := long_pre hL hn hD h
 have hd : (spl L i S).drop i = S ++ L.drop (i + (n + 1)) := by
  unfold spl
  rw [List.append_assoc, List.drop_append_of_le_length (by rw [List.length_take]; omega), List.drop_eq_nil_of_le (by rw [List.length_take]; omega), hS]
  rfl
 have ht : (spl L i S).take i = L.take i := by
  unfold spl
  rw [List.append_assoc, List.take_append_of_le_length (by rw [List.length_take]; omega), List.take_of_length_le (by rw [List.length_take]; omega)]
 have hvd : val ((spl L i S).drop i) = val S := by rw [hd, val_append, h3, Nat.mul_zero, Nat.add_zero]
 have hl : (spl L i S).length = L.length := spl_length (by omega)
 have e1 := val_split (spl L i S) i (by omega)
 have e2 := val_split L i (by omega)
 rw [hvd, ht] at e1
 rw [h2] at e2
 have hD0 : 0 < D := by omega
 refine ⟨by rw [hvd, hv]; exact Nat.mod_lt _ hD0, ?_⟩
 rw [e1, ← hN, e2, hv, BB_succ]
 have h4 := Nat.div_add_mod (val (seg L i (n + 1))) D
 generalize val (seg L i (n + 1)) / D = q at *
 generalize val (seg L i (n + 1)) % D = r at *
 rw [← h4, Nat.add_mul, Nat.mul_add (BB i) (D * q), Nat.mul_add (BB i) (q * D), Nat.mul_comm D q, Nat.mul_assoc (BB i), Nat.mul_assoc 4294967296 Q]
 omega
theorem norm_top (h0 : x ≠ 0) (h : x < 4294967296) : ∃ k : Nat, k < 32 ∧ (32 - (Lib.bitLen x : Int)) = (k : Int) ∧ 2147483648 ≤ x * 2 ^ k ∧ (x + 1) * 2 ^ k ≤ 4294967296 := by
 have h1 := bitLen_spec x (by omega)
 have h2 := Lib.bitLen_le x 32 (by omega) h
 obtain ⟨b, hb⟩ : ∃ b, Lib.bitLen x = b + 1 := by
  rcases Nat.eq_zero_or_pos (Lib.bitLen x) with h3 | h3
  ·rw [h3] at h1; simp at h1; omega
  ·exact ⟨Lib.bitLen x - 1, by omega⟩
 have h3 : 2 ^ b ≤ x := by
  rcases Nat.lt_or_ge x (2 ^ b) with h4 | h4
  ·have := Lib.bitLen_le x b (by omega) h4; omega
  ·exact h4
 rw [hb] at h1 h2 ⊢
 refine ⟨31 - b, by omega, by omega, ?_, ?_⟩
 ·have h5 := Nat.mul_le_mul_right (2 ^ (31 - b)) h3
  rw [← Nat.pow_add, show b + (31 - b) = 31 by omega] at h5
  exact h5
 ·have h5 := Nat.mul_le_mul_right (2 ^ (31 - b)) h1
  rw [← Nat.pow_add, show b + 1 + (31 - b) = 32 by omega] at h5
  exact h5
theorem norm_val {k : List Nat} (hw : ∀ x ∈ k, x < 4294967296) (hk : k.length = m + 2) (h1 : 2147483648 ≤ gd k (m + 1) * 2 ^ s) (h2 : (gd k (m + 1) + 1) * 2 ^ s ≤ 4294967296) :
  2147483648 * BB (m + 1) ≤ val k * 2 ^ s ∧ val k * 2 ^ s < BB (m + 2) := by
 have hv := val_take k (k := m + 1) (by omega)
 rw [List.take_of_length_le (by omega)] at hv
 have hlt := val_lt (words_take hw (m + 1))
 rw [List.length_take, Nat.min_eq_left (by omega)] at hlt
 rw [hv, Nat.add_mul, show m + 2 = m + 1 + 1 from rfl, BB_succ (m + 1), Nat.mul_assoc]
 have h3 := Nat.mul_le_mul_left (BB (m + 1)) h1
 have h4 := Nat.mul_le_mul_left (BB (m + 1)) h2
 have h5 : (val (k.take (m + 1)) + 1) * 2 ^ s ≤ BB (m + 1) * 2 ^ s := Nat.mul_le_mul_right _ hlt
 have h6 := Nat.two_pow_pos s
 rw [Nat.add_mul, Nat.one_mul] at h5
 constructor
 ·rw [Nat.mul_comm 2147483648]; omega
 ·rw [Nat.add_mul, Nat.one_mul, Nat.mul_add] at h4; omega
theorem trim_keep (a w : World) (g n c : Nat) (L : List Nat) (N : Nat) (hm : n ≤ 4000000) (hnc : n ≤ c) (hg : a.heap.size ≤ g) (hb : Blk w g L) (hn : n ≤ L.length) (hv : val (L.take n) = N) (hw : Below a.heap.size a w) :
  Calls Tryz.prog 139 #[.slice (some ⟨g, 0, none⟩) n c] w fun e w' => Res a N e w' ∧ w = w' := by
 have hws := hb.ws (o := 0) (n := n) (by omega)
 rw [List.drop_zero] at hws
 refine (trim_any (some ⟨g, 0, none⟩) n c (L.take n) w (by rw [List.length_take]; omega) hm hnc hws).mono ?_
 rintro e w' ⟨⟨k, hk, rfl, ht, hz⟩, rfl⟩
 have hl : ((L.take n).take k).length = k := by rw [List.length_take, List.length_take]; omega
 refine ⟨⟨some ⟨g, 0, none⟩, c, (L.take n).take k, by rw [hl], by omega, fun _ => ⟨g, L, rfl, hg, hb, ?_, by omega⟩, fun h0 => ?_, by rw [val_take_top _ _ hz, hv], hw⟩, rfl⟩
 ·rw [hl, List.take_take, Nat.min_eq_left hk]
 ·rw [hl] at h0 ⊢
  rw [gd_take (by omega)]
  exact ht h0
theorem divideLong_any (a w : World) (A B : Option Addr) (c d m : Nat) (l k : List Nat) (hk : k.length = m + 2) (hl2 : l.length ≤ 400000) (hle : m + 2 ≤ l.length) (tk : Top k) (hl : WS w A l) (hkw : WS w B k) (hw : Below a.heap.size a w) :
  Calls Tryz.prog 140 #[.slice A l.length c, .slice B (m + 2) d] w (DRes a (val l / val k) (val l % val k)) := by
 have htop : gd k (m + 1) ≠ 0 := by have := tk (by omega); rwa [hk] at this
 obtain ⟨s, hs32, hsi, hs1, hs2⟩ := norm_top htop (hkw.lt _)
 obtain ⟨hD1, hD2⟩ := norm_val hkw.1 hk hs1 hs2
 obtain ⟨D, hD⟩ : ∃ D, D = val k * 2 ^ s := ⟨_, rfl⟩
 rw [← hD] at hD1 hD2
 have hDpos : 0 < D := by have := BB_pos (m + 1); omega
 have hkw' := hkw
 obtain ⟨bk, ok, rfl, hbk, hck⟩ := hkw.at_ (by omega)
 have hc1 := hck (m + 1) (by omega)
 have hx := hkw'.lt (m + 1)
 have hsh := fun W => shiftUp_any W W (some ⟨bk, ok, none⟩) d k s (by omega) (by omega)
 obtain ⟨cnt, hcnt⟩ : ∃ n, n = l.length - (m + 2) + 1 := ⟨_, rfl⟩
 have hcnti : (l.length : Int) - ((m : Int) + 2) + 1 = (cnt : Int) := by omega
 have hmk1 := fun W => run_mk ((l.length : Int) + 1) (l.length + 1) (by simp) (by omega) W
 have hmk2 := fun W => run_mk (cnt : Int) cnt rfl (by omega) W
 rw [hk] at hsh
 have HSI := Hi hsi
 have HSH := Hi hsh
 have HD := Hi hD
 have HK := Hi hk
 have HCN := Hi hcnt
 have hm1 : (m : Int) + 1 < (m : Int) + 2 := by omega
 have hm0 : (0 : Int) ≤ (m : Int) + 1 := by omega
 have hmt : ((m : Int) + 1).toNat = m + 1 := by omega
 generalize gd k (m + 1) = x at *
 clear hsi hsh hD hk hcnt hck htop hs1 hs2
 go_enter Tryz.func140, Tryz.ntmps140
 go_wp2_with fail
 refine (Tryz.bits_LeadingZeros32 (x : Int) _ (by omega) (by omega)).mono ?_
 rintro e w0 ⟨rfl, rfl⟩
 rw [Int.toNat_natCast, HSI.out]
 go_wp2_with fail
 refine (HSH.out _ hkw' (b0 _)).mono ?_
 rintro e w1 ⟨A1, c1, ld, rfl, hc1', ho1, ht1, hv1, hb1⟩
 have hv1' := hv1.trans HD.out.symm
 have hld : ld.length = m + 2 := by
  have h1 := top_len (m := m + 2) ht1 (by rw [hv1']; exact hD2)
  have h2 := val_lt ho1.ws.1
  rw [hv1'] at h2
  rcases Nat.lt_or_ge ld.length (m + 2) with h3 | h3
  ·have := BB_mono (show ld.length ≤ m + 1 by omega); omega
  ·omega
 have htopd : 2147483648 ≤ gd ld (m + 1) := top_ge ho1.ws.1 (by omega) (by rw [hv1']; exact hD1)
 obtain ⟨gd1, Ld, rfl, hgd, hbd, htd, hLd⟩ := ho1 (by intro h; rw [h] at hld; simp at hld)
 have HV1 := Hi hv1'
 have HLD := Hi hld
 have HTD := Hi htd
 rw [hld]
 have hc1'' : m + 2 ≤ c1 := by omega
 clear hv1 hv1' hld htd ho1
 go_wp2_with fail
 obtain ⟨W2, hW2⟩ : ∃ W, W = w1.alloc (.cells (words (zer (l.length + 1))) 83) := ⟨_, rfl⟩
 have hb12 : Below w1.heap.size w1 W2 := by rw [hW2]; exact ba (b0 _) _
 have hz : Blk W2 w1.heap.size (zer (l.length + 1)) := by rw [hW2]; exact Blk.new w1 _ (zer_lt _)
 have hs12 : W2.heap.size = w1.heap.size + 1 := by rw [hW2]; simp
 rw [← hW2]
 clear hW2
 have hl2' : WS W2 A l := (hl.below hb1).below hb12
 have hin := shiftInto_any W2 w1.heap.size (l.length + 1) (l.length + 1) [] A c l s hs32 (Nat.le_refl _) (by omega) (by simp) hz hl2' ((hl.below hb1).off (Nat.le_refl _))
 simp only [List.length_nil, List.nil_append] at hin
 refine hin.mono ?_
 rintro e w3 ⟨rfl, S0, r0, hS0, hv0, hb3, hO3⟩
 have hL0 : (S0 ++ [r0]).length = l.length + 1 := by simp [hS0]
 have hN0 : val (S0 ++ [r0]) = val l * 2 ^ s := by rw [val_snoc, hS0]; exact hv0
 obtain ⟨L0, hL0e⟩ : ∃ L, L = S0 ++ [r0] := ⟨_, rfl⟩
 rw [← hL0e] at hL0 hN0 hb3
 have HL0 := Hi hL0
 have HN0 := Hi hN0
 clear hL0 hN0 hv0 hS0 hL0e hin
 have hbd3 : Blk w3 gd1 Ld := (hbd.below hb12).only hO3 (by have := hbd.lt; omega)
 go_wp2_with fail
 obtain ⟨W4, hW4⟩ : ∃ W, W = w3.alloc (.cells (words (zer cnt)) 83) := ⟨_, rfl⟩
 have hb34 : Below w3.heap.size w3 W4 := by rw [hW4]; exact ba (b0 _) _
 have hq4 : Blk W4 w3.heap.size (zer cnt) := by rw [hW4]; exact Blk.new w3 _ (zer_lt _)
 rw [← hW4]
 clear hW4
 have hr4 : Blk W4 w1.heap.size L0 := hb3.below hb34
 have hd4 : Blk W4 gd1 Ld := hbd3.below hb34
 have hw4 : Below w0.heap.size w0 W4 := bt (bo (bt hb1 hb12) hO3 hb1.size) hb34
 obtain ⟨gq, hgq⟩ : ∃ g, g = w3.heap.size := ⟨_, rfl⟩
 obtain ⟨gr, hgr⟩ : ∃ g, g = w1.heap.size := ⟨_, rfl⟩
 have hne1 : gr ≠ gq := by have := hb3.lt; omega
 have hne2 : gd1 ≠ gq := by have := hbd3.lt; omega
 have hne3 : gd1 ≠ gr := by have := hbd.lt; omega
 have hgq0 : w0.heap.size ≤ gq := by have := hb1.size; have := hb3.lt; omega
 have hgr0 : w0.heap.size ≤ gr := by have := hb1.size; omega
 rw [← hgq] at hq4 ⊢
 rw [← hgr] at hr4 ⊢
 clear hgq hgr hb3 hbd3 hbd hb34 hb12 hs12 hz hO3 hl2' hmk1 hmk2
 go_loopw [9] (fun iv wr => ∃ (j : Nat) (L Q : List Nat), iv = .int .i64 ((j : Int) - 1) ∧ j ≤ cnt ∧ L.length = l.length + 1 ∧ Q.length = cnt - j ∧ Hid (val (L.drop j) < D ∧ val L + BB j * (val Q * D) = val l * 2 ^ s) ∧ Blk wr gr L ∧ Blk wr gq (zer j ++ Q) ∧ Blk wr gd1 Ld ∧ Below w0.heap.size w0 wr) (fun iv _ => (intOf iv + 1).toNat)
 case atStart =>
  refine ⟨cnt, L0, [], rfl, Nat.le_refl _, HL0.out, by simp, ?_, hr4, by simpa using hq4, hd4, hw4⟩
  have hlt : val L0 / BB cnt < D := by
   rw [HN0.out]
   refine Nat.div_lt_of_lt_mul ?_
   have h1 := val_lt hl.1
   have h2 : BB l.length = BB cnt * BB (m + 1) := by rw [← BB_add]; congr 1; have := HCN.out; omega
   have h3 : val l * 2 ^ s < BB cnt * BB (m + 1) * 2 ^ s := Nat.mul_lt_mul_of_pos_right (by rw [← h2]; exact h1) (Nat.two_pow_pos s)
   have h4 : 2 ^ s ≤ 2147483648 := by
    have := Nat.pow_le_pow_right (show 0 < 2 by decide) (show s ≤ 31 by omega)
    exact this
   have h5 : BB (m + 1) * 2 ^ s ≤ D := Nat.le_trans (Nat.mul_le_mul_left _ h4) (by rw [Nat.mul_comm]; exact hD1)
   have h6 := Nat.mul_le_mul_left (BB cnt) h5
   rw [← Nat.mul_assoc] at h6
   omega
  refine ⟨?_, by rw [show val [] = 0 from rfl, Nat.zero_mul, Nat.mul_zero, Nat.add_zero]; exact HN0.out⟩
  rw [← val_div_BB L0 hr4.1 cnt (by rw [HL0.out]; have := HCN.out; omega)]
  exact hlt
 case round =>
  obtain ⟨j, L, Q, rfl, hj, hL, hQ, hI, hbr, hbq, hbd, hb⟩ := hrel
  have HQ := Hi hQ
  have HL := Hi hL
  clear hQ hL
  rcases Nat.eq_zero_or_pos j with rfl | h0
  ·have hi0 : val L = val l % val k * 2 ^ s ∧ val Q = val l / val k := by
    obtain ⟨h1, h2⟩ := hI.out
    rw [List.drop_zero] at h1
    rw [BB_zero, Nat.one_mul] at h2
    have h3 := Nat.div_add_mod (val l * 2 ^ s) D
    have h4 : val Q = val l * 2 ^ s / D ∧ val L = val l * 2 ^ s % D := by
     have h5 : val L % D = val L := Nat.mod_eq_of_lt h1
     rw [← h2, Nat.add_mul_div_right _ _ hDpos, Nat.add_mul_mod_self_right, h5, Nat.div_eq_of_lt h1, Nat.zero_add]
     exact ⟨rfl, rfl⟩
    rw [h4.1, h4.2, HD.out]
    exact ⟨Nat.mul_mod_mul_right _ _ _, Nat.mul_div_mul_right _ _ (Nat.two_pow_pos s)⟩
   have HI0 := Hi hi0
   have hQl : (zer 0 ++ Q).length = cnt := by simp [zer_length, HQ.out]
   have HQL := Hi hQl
   clear hi0 hQl
   go_wp2_with fail
   refine (trim_keep w0 wr gq cnt cnt (zer 0 ++ Q) (val l / val k) (by have := HCN.out; omega) (Nat.le_refl _) hgq0 hbq (by rw [HQL.out]; exact Nat.le_refl _) (by rw [List.take_of_length_le (by rw [HQL.out]; exact Nat.le_refl _)]; exact HI0.out.2) hb).mono ?_
   rintro e w5 ⟨⟨A5, c5, l5, rfl, hc5, ho5, ht5, hv5, hb5⟩, rfl⟩
   have HV5 := Hi hv5
   have hwr : WS wr (some ⟨gr, 0, none⟩) L := by
    have h := hbr.ws (o := 0) (n := L.length) (by omega)
    rwa [List.drop_zero, List.take_length] at h
   have hsd := shiftDown_any wr wr (some ⟨gr, 0, none⟩) (l.length + 1) L s (by rw [HL.out]; omega) (by omega) hwr (b0 _)
   rw [HL.out, HI0.out.1, Nat.mul_div_cancel _ (Nat.two_pow_pos s)] at hsd
   have HSD := Hi hsd
   clear hv5 hsd
   go_wp2_with fail
   refine HSD.out.mono ?_
   rintro e w6 ⟨A6, c6, l6, rfl, hc6, ho6, ht6, hv6, hb6⟩
   have HV6 := Hi hv6
   clear hv6
   go_wp2_with fail
   go_ret2
   exact ⟨A5, c5, l5, A6, c6, l6, rfl, hc5, (ho5.below hb6).mono hw.size, ht5, HV5.out, hc6, ho6.mono (Nat.le_trans hw.size hb.size), ht6, HV6.out, bt hw (bt hb hb6)⟩
  ·obtain ⟨i, rfl⟩ : ∃ i, j = i + 1 := ⟨j - 1, by omega⟩
   have hi1 : ((i + 1 : Nat) : Int) - 1 = (i : Int) := by omega
   have hk1 : (i : Int) ≤ (i : Int) + ((m : Int) + 2) + 1 := by omega
   have hk2 : (i : Int) + ((m : Int) + 2) + 1 ≤ (l.length : Int) + 1 := by have := HCN.out; omega
   have hk3 : ((i : Int) + ((m : Int) + 2) + 1).toNat = i + (m + 3) := by omega
   have hic : (i : Int) < (cnt : Int) := by omega
   rw [hi1]
   clear hi1
   have hne : ld ≠ [] := by intro h; have := HLD.out; rw [h] at this; simp at this
   have hwd : WS wr (some ⟨gd1, 0, none⟩) ld := by
    have h := hbd.ws (o := 0) (n := ld.length) (by omega)
    rwa [List.drop_zero, HTD.out] at h
   have hpre := long_pre (i := i) (n := m + 2) (D := D) hbr.1 (by rw [HL.out]; have := HCN.out; omega) hD2 hI.out.1
   have hred := reduce_any gr i (l.length + 1 - i) m L (some ⟨gd1, 0, none⟩) c1 ld wr HLD.out (by omega) (by rw [HL.out]; have := HCN.out; omega) htopd (by rw [HV1.out]; exact hpre.1) hbr hwd (fun _ b o e => by injection e with e; injection e with e1 e2; rw [← e1]; exact hne3)
   have HRED := Hi hred
   clear hred hpre hne
   go_wp2_with fail
   refine HRED.out.mono ?_
   rintro e w5 ⟨S, rfl, hS, hSw, hv, hb5, hO5⟩
   rw [HLD.out] at hS hv ⊢
   rw [HV1.out] at hv ⊢
   have hst := long_step (S := S) (i := i) (n := m + 2) (D := D) (Q := val Q) (N := val l * 2 ^ s) hbr.1 (by rw [HL.out]; have := HCN.out; omega) hS hD2 hI.out.1 hI.out.2 hv
   have hq32 : val (seg L i (m + 2 + 1)) / D < 4294967296 := by
    have h := (long_pre (i := i) (n := m + 2) (D := D) hbr.1 (by rw [HL.out]; have := HCN.out; omega) hD2 hI.out.1).1
    exact Nat.div_lt_of_lt_mul (by rw [Nat.mul_comm]; exact h)
   obtain ⟨q, hq⟩ : ∃ q, q = val (seg L i (m + 2 + 1)) / D := ⟨_, rfl⟩
   rw [← hq] at hst hq32 ⊢
   have HST := Hi hst
   have HS := Hi hS
   clear hst hv hq hS
   have hbq5 := hbq.only hO5 (fun e => hne1 e.symm)
   have hbd5 := hbd.only hO5 hne3
   have hql : (zer (i + 1) ++ Q).length = cnt := by simp [zer_length, HQ.out]; omega
   have hcq := hbq5.cell (i := i) (by omega)
   have hfq := hbq5.free i
   have hset := hbq5.set_ (i := i) hq32
   have HSET := Hi hset
   have HQL := Hi hql
   clear hset hql
   generalize gd (zer (i + 1) ++ Q) i = z at *
   go_wp2_with fail
   go_roundw
   case rel =>
    refine ⟨i, spl L i S, q :: Q, rfl, by omega, by rw [spl_length (by rw [HL.out, HS.out]; have := HCN.out; omega)]; exact HL.out, by simp [HQ.out]; omega, HST.out, hb5.only ((only_refl gq w5).set_ (.inl rfl) _) hne1, ?_, hbd5.only ((only_refl gq w5).set_ (.inl rfl) _) hne2, bs (bo hb hO5 hgr0) hgq0 _⟩
    have h := HSET.out
    have e : (zer (i + 1) ++ Q).set i q = zer i ++ (q :: Q) := by
     unfold zer
     rw [List.replicate_succ', List.append_assoc]
     have := set_mid (L := List.replicate (i + 1) 0) (S := []) (R := Q) (j := i) (x := q) (by simp)
     simp at this
     simp [this]
    rw [e] at h
    exact h
   case measure => simp [intOf]
open Go.RowKit
variable {D K R T c high i m n next o q r0 s t u3 v2 vl vr x y z : Nat} {L S l : List Nat}
theorem divide_one (a w : World) (A B : Option Addr) (c d : Nat) (l k : List Nat) (hl2 : l.length ≤ 400000) (hl3 : 2 < l.length) (hk1 : k.length = 1) (tk : Top k) (hl : WS w A l) (hk : WS w B k) (hw : Below a.heap.size a w) :
  Calls Tryz.prog 86 #[.slice A l.length c, .slice B 1 d] w (DRes a (val l / val k) (val l % val k)) := by
 have hnl : ¬ (l.length : Int) ≤ 2 := by omega
 have hy0 : gd k 0 ≠ 0 := by have := tk (by omega); rwa [hk1] at this
 have hvk : val k = gd k 0 := by rw [val_two (by omega), gd_end (show k.length ≤ 1 by omega)]; omega
 have hy := hk.lt 0
 obtain ⟨bk, ok, rfl, hbk, hck⟩ := hk.at_ (by omega)
 have hc0 := hck 0 (by omega)
 rw [Nat.add_zero] at hc0
 obtain ⟨y, hye⟩ : ∃ y, y = gd k 0 := ⟨_, rfl⟩
 rw [← hye] at hc0 hy hy0 hvk
 rw [hvk]
 have hy1 : 0 < y := by omega
 have HK1 := Hi hk1
 clear hk1 hck hvk hye hk tk
 go_enter Tryz.func86, Tryz.ntmps86
 go_wp2_with fail
 refine (own_any w w A l.length c l rfl (by omega) hl (b0 _)).mono ?_
 rintro e w1 ⟨g, rfl, hg, hb1, hw1⟩
 have hcell := cell_b hc0 hw1
 go_wp2_with fail
 refine (shorten_any g l.length l.length l y w1 (Nat.le_refl _) (by omega) hy hy1 hb1).mono ?_
 rintro e w2 ⟨S, rfl, hS, hv, hb2, hO2⟩
 rw [List.take_length] at hv ⊢
 have hrl : val l % y < 4294967296 := Nat.lt_trans (Nat.mod_lt _ hy1) hy
 rw [List.drop_length, List.append_nil] at hb2
 obtain ⟨r, hr⟩ : ∃ r, r = val l % y := ⟨_, rfl⟩
 rw [← hr] at hrl ⊢
 have HR := Hi hr
 have HV := Hi hv
 have HS := Hi hS
 have hw2 : Below w.heap.size w w2 := bo hw1 hO2 hg
 clear hv hr hS
 go_wp2_with fail
 refine (trim_keep w w2 g l.length l.length S (val l / y) (by omega) (Nat.le_refl _) hg hb2 (by rw [HS.out]; exact Nat.le_refl _) (by rw [List.take_of_length_le (by rw [HS.out]; exact Nat.le_refl _)]; exact HV.out) hw2).mono ?_
 rintro e w5 ⟨⟨A5, c5, l5, rfl, hc5, ho5, ht5, hv5, hb5⟩, rfl⟩
 have HV5 := Hi hv5
 have hrl64 : r < 18446744073709551616 := by omega
 clear hv5
 go_wp2_with fail
 refine (fromSingle_any w2 _ r hrl64 (b0 _)).mono ?_
 rintro e w6 ⟨A6, c6, l6, rfl, hc6, ho6, ht6, hv6, hb6⟩
 have HV6 := Hi hv6
 clear hv6
 go_wp2_with fail
 go_ret2
 exact ⟨A5, c5, l5, A6, c6, l6, rfl, hc5, (ho5.below hb6).mono hw.size, ht5, HV5.out, hc6, ho6.mono (Nat.le_trans hw.size hw2.size), ht6, HV6.out.trans HR.out, bt hw (bt hw2 hb6)⟩
theorem mafad9 {P : Prop} (h : P := by
 clear hlt
 go_enter Tryz.func86, Tryz.ntmps86
 go_wp2_with fail
 refine (HC.out _ hl hk).mono ?_
 rintro e w1 ⟨rfl, hb1⟩
 go_wp2_with fail
 refine (own_res w1 w1 A l.length c l rfl (by omega) tl (hl.below hb1) (b0 _)).mono ?_
 rintro e w6 ⟨A6, c6, l6, rfl, hc6, ho6, ht6, hv6, hb6⟩
 have HV6 := Hi hv6
 clear hv6
 go_wp2_with fail
 go_ret2
 exact ⟨none, 0, [], A6, c6, l6, rfl, Nat.le_refl _, fun h => absurd rfl h, top_nil, rfl, hc6, ho6.mono (bt hw hb1).size, ht6, HV6.out, bt (bt hw hb1) hb6⟩) : P := h
theorem divide_less (a w : World) (A B : Option Addr) (c d : Nat) (l k : List Nat) (hl2 : l.length ≤ 400000) (hk2 : k.length ≤ 400000) (hn : ¬ (l.length ≤ 2 ∧ k.length ≤ 2)) (hk1 : 1 < k.length) (tl : Top l) (tk : Top k) (hl : WS w A l) (hk : WS w B k) (hlt : val l < val k) (hw : Below a.heap.size a w) :
  Calls Tryz.prog 86 #[.slice A l.length c, .slice B k.length d] w (DRes a (val l / val k) (val l % val k)) := by
 rw [Nat.div_eq_of_lt hlt, Nat.mod_eq_of_lt hlt]
 have HC := Hi (fun W h1 h2 => compare_any A B l.length c k.length d l k W rfl rfl (by omega) (by omega) tl tk h1 h2)
 have hcmp : ((cmpN (val l) (val k) : Int) < 0) = True := by unfold cmpN; rw [if_pos hlt]; simp
 have hk1b : ((k.length : Int) == 1) = false := beq_eq_false_iff_ne.2 (by omega)
 by_cases hl3 : l.length ≤ 2
 ·have hl3i : (l.length : Int) ≤ 2 := by omega
  have hk3i : ¬ (k.length : Int) ≤ 2 := by omega
  exact mafad9
 ·have hl3i : ¬ (l.length : Int) ≤ 2 := by omega
  exact mafad9
theorem divide_long (a w : World) (A B : Option Addr) (c d m : Nat) (l k : List Nat) (hk : k.length = m + 2) (hl2 : l.length ≤ 400000) (hl3 : 2 < l.length) (tl : Top l) (tk : Top k) (hl : WS w A l) (hkw : WS w B k) (hge : val k ≤ val l) (hw : Below a.heap.size a w) :
  Calls Tryz.prog 86 #[.slice A l.length c, .slice B (m + 2) d] w (DRes a (val l / val k) (val l % val k)) := by
 have hlen : m + 2 ≤ l.length := by
  rw [← hk]
  exact top_len tk (Nat.lt_of_le_of_lt hge (val_lt hl.1))
 have hcc := fun W h1 h2 => compare_any A B l.length c k.length d l k W rfl rfl (by omega) (by omega) tl tk h1 h2
 rw [hk] at hcc
 have HC := Hi hcc
 have hcmp : ((cmpN (val l) (val k) : Int) < 0) = False := by unfold cmpN; rw [if_neg (by omega)]; split <;> simp
 have hk1b : ((m : Int) + 2 == 1) = false := beq_eq_false_iff_ne.2 (by omega)
 have hl3i : ¬ (l.length : Int) ≤ 2 := by omega
 have HL := Hi (fun W hW => divideLong_any a W A B c d m l k hk hl2 hlen tk (hl.below hW) (hkw.below hW) (bt hw hW))
 clear hge hcc hk
 go_enter Tryz.func86, Tryz.ntmps86
 go_wp2_with fail
 refine (HC.out _ hl hkw).mono ?_
 rintro e w1 ⟨rfl, hb1⟩
 go_wp2_with fail
 refine (HL.out _ hb1).mono ?_
 rintro e w6 ⟨A5, c5, l5, A6, c6, l6, rfl, hc5, ho5, ht5, hv5, hc6, ho6, ht6, hv6, hb6⟩
 have HV5 := Hi hv5
 have HV6 := Hi hv6
 clear hv5 hv6
 go_wp2_with fail
 go_ret2
 exact ⟨A5, c5, l5, A6, c6, l6, rfl, hc5, ho5, ht5, HV5.out, hc6, ho6, ht6, HV6.out, hb6⟩
theorem divide_any (a w : World) (A B : Option Addr) (c d : Nat) (l k : List Nat) (hl2 : l.length ≤ 400000) (hk2 : k.length ≤ 400000) (h0 : 0 < k.length) (tl : Top l) (tk : Top k) (hl : WS w A l) (hk : WS w B k) (hw : Below a.heap.size a w) :
  Calls Tryz.prog 86 #[.slice A l.length c, .slice B k.length d] w (DRes a (val l / val k) (val l % val k)) := by
 by_cases hs : l.length ≤ 2 ∧ k.length ≤ 2
 ·exact divide_small a w A B l.length c k.length d l k rfl rfl hs.1 hs.2 hl hk (Nat.ne_of_gt (val_pos tk h0)) hw
 ·by_cases h1 : k.length = 1
  ·have h := divide_one a w A B c d l k hl2 (by omega) h1 tk hl hk hw
   rwa [← h1] at h
  ·rcases Nat.lt_or_ge (val l) (val k) with hlt | hge
   ·exact divide_less a w A B c d l k hl2 hk2 hs (by omega) tl tk hl hk hlt hw
   ·obtain ⟨m, hm⟩ : ∃ m, k.length = m + 2 := ⟨k.length - 2, by omega⟩
    have hlen : k.length ≤ l.length := top_len tk (Nat.lt_of_le_of_lt hge (val_lt hl.1))
    have h := divide_long a w A B c d m l k hm hl2 (by omega) tl tk hl hk hge hw
    rwa [← hm] at h
theorem Div_any (a w : World) (na nb : Bool) (A B : Option Addr) (c d : Nat) (l k : List Nat) (hnm : l.length ≤ 400000) (hmm : k.length ≤ 400000) (hl : WS w A l) (hk : WS w B k) (hp : isB na l = true) (hq : isB nb k = true) (h0 : 0 < k.length) (hw : Below a.heap.size a w) :
  Calls Tryz.prog 13 #[.agg #[.bool na, .slice A l.length c], .agg #[.bool nb, .slice B k.length d]] w (QRes a (zI na l / zI nb k) (zI na l % zI nb k) 0) :=
 Div_ok a w na nb A B l.length c k.length d l k rfl rfl (by omega) (by omega) hl hk hp hq h0 (fun W hW => divide_any W W A B c d l k hnm hmm h0 (isB_top hp) (isB_top hq) (hl.below hW) (hk.below hW) (b0 _)) hw
open Go.RowKit
variable {D K R T c high i m n next o q r0 s t u3 v2 vl vr x y z : Nat} {L S l : List Nat}
theorem boxes4 (w : World) (na nb : Bool) (A B : Option Addr) (n c m d : Nat) : ∃ W, W = (((w.alloc (bx na A n c)).alloc (bx nb B m d)).alloc (bx false none 0 0)).alloc (bx false none 0 0) ∧ Below w.heap.size w W ∧
  Box2 W w.heap.size (.bool na) (.slice A n c) ∧ Box2 W (w.heap.size + 1) (.bool nb) (.slice B m d) ∧ Box2 W (w.heap.size + 1 + 1) (.bool false) (.slice none 0 0) ∧ Box2 W (w.heap.size + 1 + 1 + 1) (.bool false) (.slice none 0 0) := by
 refine ⟨_, rfl, ba (ba (ba (ba (b0 _) _) _) _) _, (((Box2.new w _ _).alloc _).alloc _).alloc _, ?_, ?_, ?_⟩
 ·have h := ((Box2.new (w.alloc (bx na A n c)) (.bool nb) (.slice B m d)).alloc (bx false none 0 0)).alloc (bx false none 0 0)
  rw [World.size_alloc] at h; exact h
 ·have h := (Box2.new ((w.alloc (bx na A n c)).alloc (bx nb B m d)) (.bool false) (.slice none 0 0)).alloc (bx false none 0 0)
  rw [World.size_alloc, World.size_alloc] at h; exact h
 ·have h := Box2.new (((w.alloc (bx na A n c)).alloc (bx nb B m d)).alloc (bx false none 0 0)) (.bool false) (.slice none 0 0)
  rw [World.size_alloc, World.size_alloc, World.size_alloc] at h; exact h
end Go.Proofs.YtgljdfblgpdaaaaGreatDoor
