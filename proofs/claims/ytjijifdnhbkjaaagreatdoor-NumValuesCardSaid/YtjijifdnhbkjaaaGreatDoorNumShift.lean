/- shiftDown. -/
import Derived.Test.YtjijifdnhbkjaaaGreatDoorNumDiv2
import Derived.Test.YtjijifdnhbkjaaaGreatDoorNumInt
namespace Go.Proofs.YtjijifdnhbkjaaaGreatDoor
open Go.RowKit

theorem val_digits : ∀ (L : List Nat) (N : Nat), (∀ i, i < L.length → gd L i = N / BB i % 4294967296) → N < BB L.length → val L = N
  | [], N, _, h => by simp [BB] at h; simp [val, h]
  | x :: r, N, hd, h => by
    have h0 := hd 0 (by simp)
    simp [BB, gd] at h0
    have ih := val_digits r (N / 4294967296) (fun i hi => by
      have h1 := hd (i + 1) (by simp; omega)
      rw [Nat.div_div_eq_div_mul, Nat.mul_comm, ← BB_succ]
      simpa [gd] using h1) (by rw [List.length_cons, BB_succ] at h; exact Nat.div_lt_of_lt_mul (by rw [Nat.mul_comm]; exact h))
    simp only [val, ih, h0]
    omega
theorem gd_set {L : List Nat} {i j v : Nat} (hi : i < L.length) : gd (L.set i v) j = if i = j then v else gd L j := by
  unfold gd
  rw [List.getD_eq_getElem?_getD, List.getElem?_set, List.getD_eq_getElem?_getD]
  split
  · rename_i h; subst h; simp [hi]
  · rfl
theorem val_div_BB (l : List Nat) (hl : ∀ x ∈ l, x < 4294967296) (j : Nat) (hj : j ≤ l.length) : val l / BB j = val (l.drop j) := by
  rw [val_split l j hj, Nat.add_mul_div_left _ _ (BB_pos j)]
  have h := val_lt (words_take hl j)
  rw [List.length_take, Nat.min_eq_left hj] at h
  rw [Nat.div_eq_of_lt h, Nat.zero_add]
theorem BB_two (j : Nat) : BB j = 2 ^ (32 * j) := by unfold BB; rw [show (4294967296 : Nat) = 2 ^ 32 from rfl, ← Nat.pow_mul]
/-- A digit of a number of words that is shifted down. -/
theorem shift_digit (l : List Nat) (hl : ∀ x ∈ l, x < 4294967296) (s k i : Nat) (hk : k < 32) (hi : s + i < l.length) :
    val l / 2 ^ (32 * s + k) / BB i % 4294967296 = (gd l (s + i) + 4294967296 * gd l (s + i + 1)) / 2 ^ k % 4294967296 := by
  have e1 : val l / 2 ^ (32 * s + k) / BB i = val l / BB (s + i) / 2 ^ k := by
    rw [Nat.div_div_eq_div_mul, Nat.div_div_eq_div_mul, BB_two, BB_two, ← Nat.pow_add, ← Nat.pow_add]
    congr 2; omega
  rw [e1, val_div_BB l hl _ (by omega), val_drop_at l hi]
  obtain ⟨r, hr⟩ : ∃ r, val (l.drop (s + i + 1)) = gd l (s + i + 1) + 4294967296 * r := by
    by_cases h : s + i + 1 < l.length
    · exact ⟨_, val_drop_at l h⟩
    · rw [List.drop_eq_nil_of_le (by omega), gd_end (by omega)]; exact ⟨0, rfl⟩
  rw [hr]
  generalize gd l (s + i) = x
  generalize gd l (s + i + 1) = y
  have e2 : x + 4294967296 * (y + 4294967296 * r) = (x + 4294967296 * y) + 2 ^ k * (4294967296 * (2 ^ (32 - k) * r)) := by
    have e3 : 2 ^ k * (4294967296 * (2 ^ (32 - k) * r)) = 4294967296 * ((2 ^ k * 2 ^ (32 - k)) * r) := by
      rw [Nat.mul_left_comm, ← Nat.mul_assoc (2 ^ k)]
    rw [e3, ← Nat.pow_add, show k + (32 - k) = 32 from by omega, Nat.mul_add, Nat.add_assoc]
  rw [e2, Nat.add_mul_div_left _ _ (Nat.two_pow_pos k), Nat.add_mul_mod_self_left]

theorem quiet_s {P : Program} {f : FuncId} {args : Array Value} {w : World} {n : Nat} {v : Value} (h : Calls P f args (w.drewN n) fun e w' => e = .returned v ∧ w.drewN n = w') :
    Calls P f args (w.drewN n) fun e w'' => e = .returned v ∧ ∃ m, w'' = w.drewN m := h.mono fun _ _ h => ⟨h.1, n, h.2.symm⟩

set_option maxRecDepth 100000 in
set_option maxHeartbeats 1000000 in
theorem shiftDown_any (a w : World) (A : Option Addr) (c : Nat) (l : List Nat) (x : Nat) (hm : l.length ≤ 2000000) (hx : x ≤ 100000000) (hl : WS w A l) (hw : Below a.heap.size a w) :
    Calls Tryz.prog 96 #[.slice A l.length c, .int .i64 (x : Int)] w (Res a (val l / 2 ^ x)) := by
  obtain ⟨s, hs⟩ : ∃ s, s = x / 32 := ⟨_, rfl⟩
  obtain ⟨k, hk⟩ : ∃ k, k = x % 32 := ⟨_, rfl⟩
  have hxk : x = 32 * s + k := by rw [hs, hk]; exact (Nat.div_add_mod x 32).symm
  have hk32 : k < 32 := by rw [hk]; exact Nat.mod_lt _ (by decide)
  have hq1 : (x : Int) / 32 = (s : Int) := by rw [hs]; simp
  have hq2 : (x : Int).tdiv 32 = (s : Int) := by rw [Int.tdiv_eq_ediv_of_nonneg (by omega)]; exact hq1
  have hr1 : (x : Int) % 32 = (k : Int) := by rw [hk]; simp
  have hr2 : (x : Int).tmod 32 = (k : Int) := by rw [Int.tmod_eq_emod_of_nonneg (by omega)]; exact hr1
  by_cases hsl : l.length ≤ s
  · have hsi : (l.length : Int) ≤ (s : Int) := by omega
    have e0 : val l / 2 ^ x = 0 := Nat.div_eq_of_lt (Nat.lt_of_lt_of_le (val_lt hl.1) (by rw [BB_two]; exact Nat.pow_le_pow_right (by decide) (by omega)))
    rw [e0]
    clear hs hk hxk e0
    go_enter Tryz.func96, Tryz.ntmps96
    go_wp2_with fail
    go_ret
    exact ⟨none, 0, [], rfl, Nat.le_refl _, fun h => absurd rfl h, top_nil, rfl, hw⟩
  · have hsi : ¬ (l.length : Int) ≤ (s : Int) := by omega
    obtain ⟨m, hmm⟩ : ∃ m, m = l.length - s := ⟨_, rfl⟩
    have hmi : (l.length : Int) - (s : Int) = (m : Int) := by omega
    have hmk := fun W => run_mk (m : Int) m rfl (by omega) W
    have hsd := fun i (h : s + i < l.length) => shift_digit l hl.1 s k i hk32 h
    rw [← hxk] at hsd
    have HSD := Lib.hid hsd
    have HMM := Lib.hid hmm
    have HXK := Lib.hid hxk
    clear hs hk hxk hsd hmm
    go_enter Tryz.func96, Tryz.ntmps96
    go_wp2_with fail
    obtain ⟨W1, hW1⟩ : ∃ W, W = w.alloc (.cells (words (zer m)) 52) := ⟨_, rfl⟩
    have hb1 : Blk W1 w.heap.size (zer m) := by rw [hW1]; exact Blk.new w (zer m) (zer_lt _)
    have hw1 : Below w.heap.size w W1 := by rw [hW1]; exact ba (b0 _) _
    have ho := hl.off (Nat.le_refl w.heap.size)
    have hl1 := hl.below hw1
    rw [← hW1]
    clear hW1 hmk
    go_loopw [25] (fun iv wr => ∃ (j : Nat) (L : List Nat), iv = .int .i64 (j : Int) ∧ j ≤ m ∧ L.length = m ∧ Blk wr w.heap.size L ∧ Hid (∀ i, i < j → gd L i = val l / 2 ^ x / BB i % 4294967296) ∧ Only w.heap.size W1 wr) (fun iv _ => m - (intOf iv).toNat)
    case atStart => exact ⟨0, zer m, rfl, Nat.zero_le _, zer_length _, hb1, fun i hi => absurd hi (by omega), only_refl _ _⟩
    case round =>
      obtain ⟨j, L, rfl, hj, hL, hb, hd, hO⟩ := hrel
      have HL := Lib.hid hL
      clear hL
      by_cases hlt : j < m
      · have hlti : (j : Int) < (m : Int) := by omega
        obtain ⟨p, hpn⟩ : ∃ p, p = s + j := ⟨_, rfl⟩
        have hpl : p < l.length := by have := HMM.out; omega
        have hp : (s : Int) + (j : Int) = (p : Int) := by omega
        have hwp : IntKind.i64.wrap (p : Int) = (p : Int) := IntWalk.i64_in _ ⟨by omega, by omega⟩
        have hwp1 : IntKind.i64.wrap ((p : Int) + 1) = (p : Int) + 1 := IntWalk.i64_in _ ⟨by omega, by omega⟩
        have hlr := hl1.only hO ho
        have hwa := fun W h => wordAt_any A l.length c ((p : Int) + 1) l W rfl (by omega) (by omega) (by omega) h
        rw [show ((p : Int) + 1).toNat = p + 1 from by omega] at hwa
        obtain ⟨b, off, rfl, hblt, hc⟩ := hlr.at_ (by omega)
        have hc1 := hc p hpl
        have hX := hl.lt p
        have hY := hl.lt (p + 1)
        have hdig := HSD.out j (by omega)
        rw [← hpn] at hdig
        have hor := or64 (gd l p) (gd l (p + 1)) hX hY
        obtain ⟨X, hXe⟩ : ∃ X, X = gd l p := ⟨_, rfl⟩
        obtain ⟨Y, hYe⟩ : ∃ Y, Y = gd l (p + 1) := ⟨_, rfl⟩
        rw [← hXe] at hc1 hX hor hdig
        rw [← hYe] at hwa hY hor hdig
        obtain ⟨T, hT⟩ : ∃ T, T = X + 4294967296 * Y := ⟨_, rfl⟩
        have hTl : T < 18446744073709551616 := by omega
        rw [← hT] at hor hdig
        obtain ⟨Q, hQ⟩ : ∃ Q, Q = T / 2 ^ k := ⟨_, rfl⟩
        have hQi : (T : Int) / 2 ^ k = (Q : Int) := by rw [hQ]; simp
        have hQl : Q ≤ T := by rw [hQ]; exact Nat.div_le_self _ _
        rw [← hQ] at hdig
        have hc2 := hb.cell (i := j) (by rw [HL.out]; exact hlt)
        have hf2 := hb.free j
        have HWA := Lib.hid hwa
        have HDG := Lib.hid hdig
        have hwsr := hlr
        have hpi : (p : Int) < (l.length : Int) := by omega
        have hp0 : (0 : Int) ≤ (p : Int) := by omega
        clear hwa hdig hXe hYe hT hQ hc hpn
        go_wp2_with fail
        go_quiet ((go_at_call 77; with_reducible exact quiet_s (HWA.out _ (hwsr.below (bd (b0 _) _)))))
        go_wp2_with fail
        go_roundw
        case rel =>
          have hset := (hb.draw nq).set_ (i := j) (x := Q % 4294967296) (Nat.mod_lt _ (by decide))
          refine ⟨j + 1, L.set j (Q % 4294967296), by go_num, by omega, by rw [List.length_set]; exact HL.out, by simpa using hset, fun i hi => ?_, (hO.draw _).set_ (.inl rfl) _⟩
          rw [gd_set (by rw [HL.out]; exact hlt)]
          split
          · rename_i h; subst h; exact HDG.out.symm
          · exact hd.out i (by omega)
        case measure => simp [intOf]; omega
      · have he : j = m := by omega
        have hnlt : ¬ (j : Int) < (m : Int) := by omega
        subst he
        go_wp2_with fail
        have hv : val (L.take j) = val l / 2 ^ x := by
          rw [List.take_of_length_le (Nat.le_of_eq HL.out)]
          refine val_digits L _ (fun i hi => hd.out i (by rw [← HL.out]; exact hi)) ?_
          rw [HL.out]
          have h1 := val_lt hl.1
          rw [show l.length = j + s from by have := HMM.out; omega, BB_add] at h1
          refine Nat.lt_of_le_of_lt (Nat.div_le_div_left (Nat.pow_le_pow_right (by decide) (show 32 * s ≤ x by have := HXK.out; omega)) (Nat.two_pow_pos _)) ?_
          rw [← BB_two]
          exact Nat.div_lt_of_lt_mul (by rw [Nat.mul_comm]; exact h1)
        refine (trim_own a _ w.heap.size j j L (val l / 2 ^ x) (by have := HMM.out; omega) (Nat.le_refl _) hw.size hb (Nat.le_of_eq HL.out.symm) hv (bo (bt hw hw1) hO hw.size)).mono ?_
        rintro e w1 h
        obtain ⟨A1, c1, l1, rfl, hR⟩ := h
        go_wp2_with fail
        go_ret
        exact ⟨A1, c1, l1, rfl, hR⟩
end Go.Proofs.YtjijifdnhbkjaaaGreatDoor
