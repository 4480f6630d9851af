/- guessWord and subRow. -/
import Derived.Test.YtaaipcjbmdbndaaDoorNumPie
import Derived.Test.YtaaipcjbmdbndaaDoorNumSmall
import Derived.Outline
namespace Go.Proofs.YtaaipcjbmdbndaaDoor
open Go.RowKit

/- ### Plain mathematics -/
theorem knu_lo {T D R K vl vr v2 u3 : Nat} (hD : D = vl + K * v2) (hR : R = vr + K * u3) (hvr : vr < K) (h : T * D ≤ R) : T * v2 ≤ u3 := by
  have h1 : K * (T * v2) ≤ T * D := by
    rw [hD, Nat.mul_add, Nat.mul_left_comm]; exact Nat.le_add_left _ _
  have h2 : K * (T * v2) < K * (u3 + 1) := by rw [Nat.mul_add]; omega
  have := Nat.lt_of_mul_lt_mul_left h2
  omega
theorem knu_lo2 {T high next r0 t : Nat} (h0 : r0 < 4294967296) (h : T * (next + 4294967296 * high) ≤ r0 + 4294967296 * t) : T * high ≤ t := by
  rw [Nat.mul_add, Nat.mul_left_comm] at h
  generalize T * high = a at *
  omega
theorem knu_hi {q D R K vl vr v2 u3 : Nat} (hD : D = vl + K * v2) (hR : R = vr + K * u3) (hvl : vl < K) (h : q * v2 ≤ u3) (hq : q ≤ v2 + 1) : (q - 1) * D ≤ R := by
  rcases Nat.eq_zero_or_pos q with rfl | hq0
  · simp
  · have h1 : D ≤ K * (v2 + 1) := by rw [hD, Nat.mul_add]; omega
    have h2 : (q - 1) * D ≤ (q - 1) * (K * (v2 + 1)) := Nat.mul_le_mul_left _ h1
    have h3 : (q - 1) * (v2 + 1) ≤ q * v2 := by
      obtain ⟨p, rfl⟩ : ∃ p, q = p + 1 := ⟨q - 1, by omega⟩
      rw [Nat.add_sub_cancel, Nat.mul_add, Nat.add_mul]
      omega
    have h4 : (q - 1) * (K * (v2 + 1)) = K * ((q - 1) * (v2 + 1)) := by rw [Nat.mul_left_comm]
    have h5 := Nat.mul_le_mul_left K (Nat.le_trans h3 h)
    omega
/-- A step down is right where the guess is too great. -/
theorem knu_step {T q high next r r0 t : Nat} (hT : T * (next + 4294967296 * high) ≤ r0 + 4294967296 * t) (ht : q * high + r = t) (hTq : T ≤ q) (hbig : r0 + 4294967296 * r < q * next) : T + 1 ≤ q := by
  rcases Nat.lt_or_ge T q with h | h
  · exact h
  · obtain rfl : T = q := by omega
    rw [Nat.mul_add, Nat.mul_left_comm, ← ht, Nat.mul_add] at hT
    omega
theorem top_words {l : List Nat} {m : Nat} (h : l.length = m + 2) : val l = val (l.take m) + BB m * (gd l m + 4294967296 * gd l (m + 1)) := by
  have h1 := val_take l (k := m) (by omega)
  have h2 := val_take l (k := m + 1) (by omega)
  rw [show m + 1 + 1 = l.length by omega, List.take_length] at h2
  rw [h2, h1, BB_succ, Nat.mul_add, Nat.mul_assoc]
  omega
theorem top_words3 {l : List Nat} {m : Nat} (h : l.length = m + 3) : val l = val (l.take m) + BB m * (gd l m + 4294967296 * (gd l (m + 1) + 4294967296 * gd l (m + 2))) := by
  have h1 := val_take l (k := m) (by omega)
  have h2 := val_take l (k := m + 1) (by omega)
  have h3 := val_take l (k := m + 2) (by omega)
  rw [show m + 2 + 1 = l.length by omega, List.take_length] at h3
  rw [h3, h2, h1, BB_succ, show m + 2 = m + 1 + 1 by omega, BB_succ, BB_succ]
  simp only [Nat.mul_add, Nat.mul_assoc]
  omega

theorem cell_b {W W' : World} {a : Addr} {v : Value} (h : W.cell? a = some v) (hb : Below W.heap.size W W') : W'.cell? a = some v :=
  (World.cell?_of_block (hb.block _ (World.block_lt_of_cell? W a h))).trans h

/-- What guessWord returns: the word T of the quotient, or one more. -/
def GuessP (T : Nat) (w : World) (e : Ending) (w' : World) : Prop := ∃ q : Nat, e = .returned (.int .u32 (q : Int)) ∧ T ≤ q ∧ q ≤ T + 1 ∧ q < 4294967296 ∧ Below w.heap.size w w'

set_option maxRecDepth 100000 in
set_option maxHeartbeats 1000000 in
theorem guess_any (A B : Option Addr) (m c d : Nat) (r l : List Nat) (T : Nat) (w : World) (hr : r.length = m + 3) (hl : l.length = m + 2) (hm : m ≤ 1000000) (hwr : WS w A r) (hwl : WS w B l) (htop : 2147483648 ≤ gd l (m + 1)) (hfit : val r < 4294967296 * val l) (hT : T = val r / val l) :
    Calls Tryd.prog 99 #[.slice A (m + 3) c, .slice B (m + 2) d] w (GuessP T w) := by
  have hD := top_words hl
  have hR := top_words3 hr
  have hvl := val_lt (words_take hwl.1 m)
  have hvr := val_lt (words_take hwr.1 m)
  rw [List.length_take, Nat.min_eq_left (by omega)] at hvl hvr
  have hDpos : 0 < val l := Nat.pos_of_ne_zero (fun h => by rw [h] at hfit; omega)
  have hTD : T * val l ≤ val r := by rw [hT]; exact Nat.div_mul_le_self _ _
  have hlo := knu_lo hD hR hvr hTD
  have hr0 := hwr.lt m
  have hlo2 := knu_lo2 hr0 hlo
  have hTB : T < 4294967296 := by rw [hT]; exact Nat.div_lt_of_lt_mul (by rw [Nat.mul_comm]; exact hfit)
  have hup : ∀ q, q * (gd l m + 4294967296 * gd l (m + 1)) ≤ gd r m + 4294967296 * (gd r (m + 1) + 4294967296 * gd r (m + 2)) → q < 4294967296 → q ≤ T + 1 := fun q h hq => by
    have h1 := knu_hi hD hR hvl h (by omega)
    have h2 : q - 1 ≤ T := by rw [hT]; exact (Nat.le_div_iff_mul_le hDpos).2 h1
    omega
  have HUP := Lib.hid hup
  have HLO := Lib.hid hlo
  have HLO2 := Lib.hid hlo2
  obtain ⟨b1, o1, rfl, hb1, hc1⟩ := hwr.at_ (by omega)
  obtain ⟨b2, o2, rfl, hb2, hc2⟩ := hwl.at_ (by omega)
  have r0 := hc1 m (by omega)
  have r1 := hc1 (m + 1) (by omega)
  have r2 := hc1 (m + 2) (by omega)
  have l0 := hc2 m (by omega)
  have l1 := hc2 (m + 1) (by omega)
  have hr1 := hwr.lt (m + 1)
  have hr2 := hwr.lt (m + 2)
  have hl0 := hwl.lt m
  have hl1 := hwl.lt (m + 1)
  clear hc1 hc2 hD hR hvl hvr hDpos hTD hlo hlo2 hup hT hfit hr hl
  generalize gd r m = x0 at *
  generalize gd r (m + 1) = x1 at *
  generalize gd r (m + 2) = x2 at *
  generalize gd l m = y0 at *
  generalize gd l (m + 1) = y1 at *
  obtain ⟨t, ht⟩ : ∃ t, t = x1 + 4294967296 * x2 := ⟨_, rfl⟩
  have hor : bits BinOp.or IntKind.u64 ((x2 : Int) * 4294967296) (x1 : Int) = (t : Int) := by rw [ht]; exact or64' x1 x2 hr1 hr2
  rw [← ht] at HLO HLO2 HUP
  have htl : t < 18446744073709551616 := by omega
  clear ht
  obtain ⟨Q, hQ⟩ : ∃ Q, Q = t / y1 := ⟨_, rfl⟩
  have hQi : (t : Int) / (y1 : Int) = (Q : Int) := by rw [hQ]; simp
  have hTQ : T ≤ Q := by rw [hQ]; exact (Nat.le_div_iff_mul_le (by omega)).2 HLO2.out
  have hQt : Q * y1 ≤ t := by rw [hQ]; exact Nat.div_mul_le_self _ _
  have hQl : Q < 18446744073709551616 := Nat.lt_of_le_of_lt (by rw [hQ]; exact Nat.div_le_self _ _) htl
  have hy10 : (y1 : Int) ≠ 0 := by omega
  have hy1b : ((y1 : Int) == 0) = false := beq_eq_false_iff_ne.2 hy10
  clear hQ
  obtain ⟨q0, p0, hmin, hq0c, hTq0, hq0l, hp0, hp0t⟩ : ∃ q0 p0 : Nat, min (Q : Int) 4294967295 = (q0 : Int) ∧ ((Q : Int) ≤ 4294967295 ∧ q0 = Q ∨ (4294967295 : Int) < (Q : Int) ∧ q0 = 4294967295) ∧ T ≤ q0 ∧ q0 ≤ 4294967295 ∧ p0 = q0 * y1 ∧ p0 ≤ t := by
    rcases Nat.lt_or_ge 4294967295 Q with h | h
    · exact ⟨4294967295, _, by omega, .inr ⟨by omega, rfl⟩, by omega, Nat.le_refl _, rfl, Nat.le_trans (Nat.mul_le_mul_right y1 (Nat.le_of_lt h)) hQt⟩
    · exact ⟨Q, _, by omega, .inl ⟨by omega, rfl⟩, hTQ, h, rfl, hQt⟩
  clear hQt hTQ
  have hpi0 : (q0 : Int) * (y1 : Int) = (p0 : Int) := by rw [hp0]; simp
  have HP0 := Lib.hid hp0
  clear hp0
  rcases hq0c with ⟨hqc, rfl⟩ | ⟨hqc, rfl⟩
  all_goals
    go_enter Tryd.func99, Tryd.ntmps99
    go_wp2_with fail
    go_quiet (fail)
    go_wp2_with fail
    go_quiet (fail)
    go_wp2_with fail
    go_loopw [9, 10] (fun qv rv wr => ∃ q r : Nat, qv = .int .u64 (q : Int) ∧ rv = .int .u64 (r : Int) ∧ q ≤ 4294967295 ∧ T ≤ q ∧ Hid (q * y1 + r = t) ∧ r < 18446744073709551616 ∧ Below w.heap.size w wr) (fun qv _ _ => (intOf qv).toNat)
    case atStart =>
      refine ⟨_, t - p0, rfl, ?_, hq0l, hTq0, Lib.hid (by rw [← HP0.out]; omega), by omega, by first | exact bd (bd (b0 _) _) _ | exact bd (b0 _) _ | exact b0 _⟩
      go_num
    case round =>
      obtain ⟨q, r, rfl, rfl, hq, hTq, hqr, hrl, hb⟩ := hrel
      have c0 := cell_b r0 hb
      by_cases hrB : r < 4294967296
      · have hrBi : (r : Int) < 4294967296 := by omega
        have hor2 : bits BinOp.or IntKind.u64 ((r : Int) * 4294967296) (x0 : Int) = ((x0 + 4294967296 * r : Nat) : Int) := or64' x0 r hr0 hrB
        obtain ⟨s, hs⟩ : ∃ s, s = x0 + 4294967296 * r := ⟨_, rfl⟩
        obtain ⟨p, hp⟩ : ∃ p, p = q * y0 := ⟨_, rfl⟩
        have hpi : (q : Int) * (y0 : Int) = (p : Int) := by rw [hp]; simp
        have hpl : p ≤ 18446744065119617025 := by rw [hp]; exact Nat.mul_le_mul hq (Nat.le_of_lt_succ hl0)
        rw [← hs] at hor2
        have HS := Lib.hid hs
        have HP := Lib.hid hp
        clear hs hp
        by_cases hbig : s < p
        · have hbigi : (s : Int) < (p : Int) := by omega
          have hstep : T + 1 ≤ q := knu_step HLO.out hqr.out hTq (by rw [← HS.out, ← HP.out]; exact hbig)
          go_wp2_with fail
          go_roundw
          case rel =>
            refine ⟨q - 1, r + y1, by go_num, by go_num, by omega, by omega, Lib.hid ?_, by omega, hb⟩
            have h1 := hqr.out
            obtain ⟨q', rfl⟩ : ∃ q', q = q' + 1 := ⟨q - 1, by omega⟩
            rw [Nat.add_mul] at h1
            rw [Nat.add_sub_cancel]
            omega
          case measure => simp [intOf]; omega
        · have hbigi : ¬ (s : Int) < (p : Int) := by omega
          go_wp2_with fail
          go_ret
          refine ⟨q, rfl, hTq, HUP.out q ?_ (by omega), by omega, hb⟩
          rw [Nat.mul_add, Nat.mul_left_comm, ← HP.out]
          have h1 := hqr.out
          have h2 := HS.out
          generalize q * y1 = qy at *
          omega
      · have hrBi : ¬ (r : Int) < 4294967296 := by omega
        go_wp2_with fail
        go_ret
        refine ⟨q, rfl, hTq, HUP.out q ?_ (by omega), by omega, hb⟩
        have hpl : q * y0 ≤ 18446744065119617025 := Nat.mul_le_mul hq (Nat.le_of_lt_succ hl0)
        rw [Nat.mul_add, Nat.mul_left_comm]
        have h1 := hqr.out
        generalize q * y1 = qy at *
        generalize q * y0 = qz at *
        omega
end Go.Proofs.YtaaipcjbmdbndaaDoor

/- subRow, addBack. -/
namespace Go.Proofs.YtaaipcjbmdbndaaDoor
open Go.RowKit

/-- q l has been taken off the words of L from o on; 'b' tells whether that went below 0. -/
def SubP (g o q : Nat) (L l : List Nat) (w : World) (e : Ending) (w' : World) : Prop :=
  ∃ (S : List Nat) (b : Bool), e = .returned (.bool b) ∧ S.length = l.length + 1 ∧ (∀ x ∈ S, x < 4294967296) ∧ val S + q * val l = val (seg L o (l.length + 1)) + (if b then BB (l.length + 1) else 0) ∧ Blk w' g (spl L o S) ∧ Only g w w'

theorem sub_step {vS K c q vs vl x z u t : Nat} (hv : vS + q * vl = vs + K * c) (ht : t = x * q + c) (hu : u + t % 4294967296 = z + (if z < t % 4294967296 then 4294967296 else 0)) :
    vS + K * u + q * (vl + K * x) = vs + K * z + K * 4294967296 * (t / 4294967296 + if z < t % 4294967296 then 1 else 0) := by
  have h0 : 4294967296 * (t / 4294967296) + t % 4294967296 = t := Nat.div_add_mod _ _
  have h1 : K * u + K * (t % 4294967296) = K * z + K * (if z < t % 4294967296 then 4294967296 else 0) := by rw [← Nat.mul_add, hu, Nat.mul_add]
  have h2 : K * 4294967296 * (t / 4294967296) + K * (t % 4294967296) = K * (x * q) + K * c := by
    rw [Nat.mul_assoc, ← Nat.mul_add, h0, ht, Nat.mul_add]
  have h3 : q * (vl + K * x) = q * vl + K * (x * q) := by rw [Nat.mul_add, Nat.mul_left_comm, Nat.mul_comm q x]
  rw [h3, Nat.mul_add]
  split at h1 <;> split <;> simp_all <;> omega
theorem u32_sub {z y : Nat} (hz : z < 4294967296) (hy : y < 4294967296) (h : z < y) : IntKind.u32.wrap ((z : Int) - (y : Int)) = ((z + 4294967296 - y : Nat) : Int) := by
  simp [IntKind.wrap, IntKind.signed, IntKind.bits]
  omega

set_option maxRecDepth 100000 in
set_option maxHeartbeats 1000000 in
theorem subRow_any (g o d : Nat) (L : List Nat) (A : Option Addr) (c : Nat) (l : List Nat) (q : Nat) (w : World) (hm2 : l.length ≤ 1000000) (hL : o + (l.length + 1) ≤ L.length) (hq : q < 4294967296) (h0 : 0 < l.length)
    (hg : Blk w g L) (hl : WS w A l) (ho : Off A l g) :
    Calls Tryd.prog 100 #[.slice (some ⟨g, o, none⟩) (l.length + 1) d, .slice A l.length c, .int .u32 (q : Int)] w (SubP g o q L l w) := by
  go_enter Tryd.func100, Tryd.ntmps100
  go_wp2_with fail
  go_loopw [7, 14] (fun cv iv wr => ∃ (k : Nat) (S : List Nat) (r : Nat), k ≤ l.length ∧ iv = .int .i64 k ∧ cv = .int .u64 (r : Int) ∧ r < 4294967296 ∧ S.length = k ∧ (∀ x ∈ S, x < 4294967296) ∧ val S + q * val (l.take k) = val (seg L o k) + BB k * r ∧ Blk wr g (spl L o S) ∧ Only g w wr) (fun _ iv _ => l.length - (intOf iv).toNat)
  case atStart => exact ⟨0, [], 0, Nat.zero_le _, rfl, rfl, by omega, rfl, by simp, by simp [seg_zero, val], by rw [spl_nil]; exact hg, only_refl _ _⟩
  case round =>
    obtain ⟨k, S, r, hk, rfl, rfl, hr, hS, hSw, hv, hb, hO⟩ := hrel
    by_cases hlt : k < l.length
    · obtain ⟨b, off, rfl, hblt, hc⟩ := (hl.only hO ho).at_ (by omega)
      have hc1 := hc k hlt
      have hc2 := hb.cell (i := o + k) (by rw [spl_length (by omega)]; omega)
      have hf2 := hb.free (o + k)
      rw [spl_get (by omega) (by omega)] at hc2
      have hx := hl.lt k
      have hz := getD_lt hg.1 (o + k)
      have H1 := Lib.hid (val_take l hlt)
      have H2 := Lib.hid (val_seg_succ L o (k := k) (by omega))
      have hki : (k : Int) < ((l.length : Int) + 1) := by omega
      have hkj : (k : Int) < (l.length : Int) := by omega
      clear hc
      generalize gd l k = x at *
      generalize gd L (o + k) = z at *
      have hxy := Nat.mul_le_mul (Nat.le_of_lt_succ hx) (Nat.le_of_lt_succ hq)
      obtain ⟨p, hp⟩ : ∃ p, p = x * q := ⟨_, rfl⟩
      have hpi : (x : Int) * (q : Int) = (p : Int) := by rw [hp]; simp
      have hpl : p ≤ 18446744065119617025 := by omega
      obtain ⟨t, ht⟩ : ∃ t, t = p + r := ⟨_, rfl⟩
      have hti : (p : Int) + (r : Int) = (t : Int) := by omega
      have htl : t ≤ 18446744069414584320 := by omega
      obtain ⟨t0, ht0⟩ : ∃ t0, t0 = t % 4294967296 := ⟨_, rfl⟩
      obtain ⟨t1, ht1⟩ : ∃ t1, t1 = t / 4294967296 := ⟨_, rfl⟩
      have ht0i : (t : Int) % 4294967296 = (t0 : Int) := by omega
      have ht1i : (t : Int) / 4294967296 = (t1 : Int) := by omega
      have ht0l : t0 < 4294967296 := by omega
      have ht1l : t1 < 4294967296 := by omega
      have ht1s : z < t0 → t1 + 1 < 4294967296 := by omega
      have HT1S := Lib.hid ht1s
      have HP := Lib.hid hp
      have HT := Lib.hid ht
      have HT0 := Lib.hid ht0
      have HT1 := Lib.hid ht1
      have HS := Lib.hid hS
      have HV := Lib.hid hv
      clear hp hxy hv hS ht ht0 ht1 ht1s
      by_cases hzt : z < t0
      · have hzti : (z : Int) < (t0 : Int) := by omega
        have hwr := u32_sub hz ht0l hzt
        obtain ⟨u, hu⟩ : ∃ u, u = z + 4294967296 - t0 := ⟨_, rfl⟩
        rw [← hu] at hwr
        have hul : u < 4294967296 := by omega
        have HU : Hid (u + t0 = z + 4294967296) := Lib.hid (by omega)
        have ht1t := HT1S.out hzt
        clear hu
        go_wp2_with fail
        go_roundw
        case rel =>
          refine ⟨k + 1, S ++ [u], t1 + 1, by omega, by go_num, by go_num, by omega, by simp [HS.out], words_snoc hSw hul, ?_, ?_, hO.set_ (.inl rfl) _⟩
          · rw [val_snoc, HS.out, H2.out, H1.out, BB_succ]
            have h := sub_step (u := u) (z := z) HV.out (show t = x * q + r by rw [HT.out, HP.out]) (by rw [← HT0.out, if_pos hzt]; exact HU.out)
            rw [← HT0.out, if_pos hzt, ← HT1.out] at h
            exact h
          · have h := hb.set_ (i := o + k) hul
            rw [← HS.out] at h ⊢
            rw [spl_set _ (by rw [HS.out]; omega)] at h
            exact h
        case measure => simp [intOf]; omega
      · have hzti : ¬ (z : Int) < (t0 : Int) := by omega
        go_wp2_with fail
        go_roundw
        case rel =>
          have hul : z - t0 < 4294967296 := by omega
          refine ⟨k + 1, S ++ [z - t0], t1, by omega, by go_num, by go_num, by omega, by simp [HS.out], words_snoc hSw hul, ?_, ?_, hO.set_ (.inl rfl) _⟩
          · rw [val_snoc, HS.out, H2.out, H1.out, BB_succ]
            have h := sub_step (u := z - t0) (z := z) HV.out (show t = x * q + r by rw [HT.out, HP.out]) (by rw [← HT0.out, if_neg hzt]; omega)
            rw [← HT0.out, if_neg hzt, ← HT1.out, Nat.add_zero] at h
            exact h
          · have h := hb.set_ (i := o + k) hul
            rw [← HS.out] at h ⊢
            rw [spl_set _ (by rw [HS.out]; omega)] at h
            have e : ((z - t0 : Nat) : Int) = (z : Int) - (t0 : Int) := by omega
            rw [e] at h
            exact h
        case measure => simp [intOf]; omega
    · have he : k = l.length := by omega
      subst he
      rw [List.take_length] at hv
      have hc2 := hb.cell (i := o + l.length) (by rw [spl_length (by omega)]; omega)
      have hf2 := hb.free (o + l.length)
      rw [spl_get (by omega) (by omega)] at hc2
      have hz := getD_lt hg.1 (o + l.length)
      have H2 := Lib.hid (val_seg_succ L o (k := l.length) (by omega))
      generalize gd L (o + l.length) = z at *
      have HS := Lib.hid hS
      have HV := Lib.hid hv
      clear hS hv
      have fin : ∀ u : Nat, u < 4294967296 → ∀ b : Bool, u + r = z + (if b then 4294967296 else 0) → Blk (wr.setCell ⟨g, o + l.length, none⟩ (.int .u32 (u : Int))) g (spl L o (S ++ [u])) ∧ val (S ++ [u]) + q * val l = val (seg L o (l.length + 1)) + (if b then BB (l.length + 1) else 0) := fun u hu b hbz => by
        refine ⟨?_, ?_⟩
        · have h := hb.set_ (i := o + l.length) hu
          rw [← HS.out] at h ⊢
          rw [spl_set _ (by rw [HS.out]; omega)] at h
          exact h
        · rw [val_snoc, HS.out, H2.out, BB_succ]
          have h1 := HV.out
          have h2 : BB l.length * u + BB l.length * r = BB l.length * z + BB l.length * (if b then 4294967296 else 0) := by rw [← Nat.mul_add, hbz, Nat.mul_add]
          cases b <;> simp at h2 ⊢ <;> omega
      have HFIN := Lib.hid fin
      clear fin
      by_cases hzr : z < r
      · have hzri : (z : Int) < (r : Int) := by omega
        have hwr := u32_sub hz hr hzr
        obtain ⟨u, hu⟩ : ∃ u, u = z + 4294967296 - r := ⟨_, rfl⟩
        rw [← hu] at hwr
        have hul : u < 4294967296 := by omega
        have HU : Hid (u + r = z + 4294967296) := Lib.hid (by omega)
        clear hu
        go_wp2_with fail
        go_ret
        have h := HFIN.out u hul true HU.out
        exact ⟨S ++ [u], true, rfl, by simp [HS.out], words_snoc hSw hul, h.2, h.1, hO.set_ (.inl rfl) _⟩
      · have hzri : ¬ (z : Int) < (r : Int) := by omega
        go_wp2_with fail
        go_ret
        have hul : z - r < 4294967296 := by omega
        have h := HFIN.out (z - r) hul false (by simp; omega)
        have e : ((z - r : Nat) : Int) = (z : Int) - (r : Int) := by omega
        rw [e] at h
        exact ⟨S ++ [z - r], false, rfl, by simp [HS.out], words_snoc hSw hul, h.2, h.1, hO.set_ (.inl rfl) _⟩

set_option maxRecDepth 100000 in
set_option maxHeartbeats 400000 in
theorem addBack_any (g o m d : Nat) (L : List Nat) (A : Option Addr) (n c : Nat) (l : List Nat) (w : World) (hn : l.length = n) (hm : n ≤ m) (hm2 : m ≤ 4000000) (hL : o + m ≤ L.length)
    (hg : Blk w g L) (hl : WS w A l) (ho : Off A l g) :
    Calls Tryd.prog 101 #[.slice (some ⟨g, o, none⟩) m d, .slice A n c] w fun e w' =>
      ∃ (S : List Nat) (r : Nat), e = .returned (.int .u32 (r : Int)) ∧ r < 4294967296 ∧ S.length = n ∧ (∀ x ∈ S, x < 4294967296) ∧ val S + BB n * r = val (seg L o n) + val l ∧ Blk w' g (spl L o S) ∧ Only g w w' := by
  go_enter Tryd.func101, Tryd.ntmps101
  go_wp2_with fail
  refine (addRow_any g o m d L A n c l 1 w hn hm hm2 hL (by decide) hg hl ho).mono ?_
  rintro e w' ⟨S, r, rfl, hr, hS, hSw, hv, hb, hO⟩
  have HV := Lib.hid hv
  have HS := Lib.hid hS
  clear hv hS
  go_wp2_with fail
  go_ret
  exact ⟨S, r, rfl, hr, HS.out, hSw, by rw [HV.out, Nat.one_mul], hb, hO⟩
end Go.Proofs.YtaaipcjbmdbndaaDoor
