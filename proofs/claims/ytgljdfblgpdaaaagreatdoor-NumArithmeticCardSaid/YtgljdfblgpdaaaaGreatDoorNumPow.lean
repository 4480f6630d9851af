/- shiftDown. -/
import Derived.Test.YtgljdfblgpdaaaaGreatDoorNumSum
import Derived.Test.YtgljdfblgpdaaaaGreatDoorNumInt
import Derived.Test.YtgljdfblgpdaaaaGreatDoorNumFin
import Derived.Test.YtgljdfblgpdaaaaGreatDoorNumGcd
set_option linter.unusedSimpArgs false
set_option linter.unusedVariables false
/-! shiftDown. -/
namespace Go.Proofs.YtgljdfblgpdaaaaGreatDoor
open Go.RowKit

theorem val_digits : ∀ (L : List Nat) (N : Nat), (∀ i, i < L.length → gd L i = N / BB i % 4294967296) → N < BB L.length → val L = N
  | [], N, _, h => by simp [BB] at h; simp [val, h]
  | x :: r, N, hd, h => by
    have h0 := hd 0 (by simp)
    simp [BB, gd] at h0
    have ih := val_digits r (N / 4294967296) (fun i hi => by
      have h1 := hd (i + 1) (by simp; omega)
      rw [Nat.div_div_eq_div_mul, Nat.mul_comm, ← BB_succ]
      simpa [gd] using h1) (by rw [List.length_cons, BB_succ] at h; exact Nat.div_lt_of_lt_mul (by rw [Nat.mul_comm]; exact h))
    simp only [val, ih, h0]
    omega
theorem gd_set {L : List Nat} {i j v : Nat} (hi : i < L.length) : gd (L.set i v) j = if i = j then v else gd L j := by
  unfold gd
  rw [List.getD_eq_getElem?_getD, List.getElem?_set, List.getD_eq_getElem?_getD]
  split
  · rename_i h; subst h; simp [hi]
  · rfl
theorem val_div_BB (l : List Nat) (hl : ∀ x ∈ l, x < 4294967296) (j : Nat) (hj : j ≤ l.length) : val l / BB j = val (l.drop j) := by
  rw [val_split l j hj, Nat.add_mul_div_left _ _ (BB_pos j)]
  have h := val_lt (words_take hl j)
  rw [List.length_take, Nat.min_eq_left hj] at h
  rw [Nat.div_eq_of_lt h, Nat.zero_add]
theorem BB_two (j : Nat) : BB j = 2 ^ (32 * j) := by unfold BB; rw [show (4294967296 : Nat) = 2 ^ 32 from rfl, ← Nat.pow_mul]
/-- A digit of a number of words that is shifted down. -/
theorem shift_digit (l : List Nat) (hl : ∀ x ∈ l, x < 4294967296) (s k i : Nat) (hk : k < 32) (hi : s + i < l.length) :
    val l / 2 ^ (32 * s + k) / BB i % 4294967296 = (gd l (s + i) + 4294967296 * gd l (s + i + 1)) / 2 ^ k % 4294967296 := by
  have e1 : val l / 2 ^ (32 * s + k) / BB i = val l / BB (s + i) / 2 ^ k := by
    rw [Nat.div_div_eq_div_mul, Nat.div_div_eq_div_mul, BB_two, BB_two, ← Nat.pow_add, ← Nat.pow_add]
    congr 2; omega
  rw [e1, val_div_BB l hl _ (by omega), val_drop_at l hi]
  obtain ⟨r, hr⟩ : ∃ r, val (l.drop (s + i + 1)) = gd l (s + i + 1) + 4294967296 * r := by
    by_cases h : s + i + 1 < l.length
    · exact ⟨_, val_drop_at l h⟩
    · rw [List.drop_eq_nil_of_le (by omega), gd_end (by omega)]; exact ⟨0, rfl⟩
  rw [hr]
  generalize gd l (s + i) = x
  generalize gd l (s + i + 1) = y
  have e2 : x + 4294967296 * (y + 4294967296 * r) = (x + 4294967296 * y) + 2 ^ k * (4294967296 * (2 ^ (32 - k) * r)) := by
    have e3 : 2 ^ k * (4294967296 * (2 ^ (32 - k) * r)) = 4294967296 * ((2 ^ k * 2 ^ (32 - k)) * r) := by
      rw [Nat.mul_left_comm, ← Nat.mul_assoc (2 ^ k)]
    rw [e3, ← Nat.pow_add, show k + (32 - k) = 32 from by omega, Nat.mul_add, Nat.add_assoc]
  rw [e2, Nat.add_mul_div_left _ _ (Nat.two_pow_pos k), Nat.add_mul_mod_self_left]

theorem quiet_s {P : Program} {f : FuncId} {args : Array Value} {w : World} {n : Nat} {v : Value} (h : Calls P f args (w.drewN n) fun e w' => e = .returned v ∧ w.drewN n = w') :
    Calls P f args (w.drewN n) fun e w'' => e = .returned v ∧ ∃ m, w'' = w.drewN m := h.mono fun _ _ h => ⟨h.1, n, h.2.symm⟩

set_option maxRecDepth 100000 in
set_option maxHeartbeats 1000000 in
theorem shiftDown_any (a w : World) (A : Option Addr) (c : Nat) (l : List Nat) (x : Nat) (hm : l.length ≤ 2000000) (hx : x ≤ 100000000) (hl : WS w A l) (hw : Below a.heap.size a w) :
    Calls Tryz.prog 164 #[.slice A l.length c, .int .i64 (x : Int)] w (Res a (val l / 2 ^ x)) := by
  obtain ⟨s, hs⟩ : ∃ s, s = x / 32 := ⟨_, rfl⟩
  obtain ⟨k, hk⟩ : ∃ k, k = x % 32 := ⟨_, rfl⟩
  have hxk : x = 32 * s + k := by rw [hs, hk]; exact (Nat.div_add_mod x 32).symm
  have hk32 : k < 32 := by rw [hk]; exact Nat.mod_lt _ (by decide)
  have hq1 : (x : Int) / 32 = (s : Int) := by rw [hs]; simp
  have hq2 : (x : Int).tdiv 32 = (s : Int) := by rw [Int.tdiv_eq_ediv_of_nonneg (by omega)]; exact hq1
  have hr1 : (x : Int) % 32 = (k : Int) := by rw [hk]; simp
  have hr2 : (x : Int).tmod 32 = (k : Int) := by rw [Int.tmod_eq_emod_of_nonneg (by omega)]; exact hr1
  by_cases hsl : l.length ≤ s
  · have hsi : (l.length : Int) ≤ (s : Int) := by omega
    have e0 : val l / 2 ^ x = 0 := Nat.div_eq_of_lt (Nat.lt_of_lt_of_le (val_lt hl.1) (by rw [BB_two]; exact Nat.pow_le_pow_right (by decide) (by omega)))
    rw [e0]
    clear hs hk hxk e0
    go_enter Tryz.func164, Tryz.ntmps164
    go_wp2_with fail
    go_ret
    exact ⟨none, 0, [], rfl, Nat.le_refl _, fun h => absurd rfl h, top_nil, rfl, hw⟩
  · have hsi : ¬ (l.length : Int) ≤ (s : Int) := by omega
    obtain ⟨m, hmm⟩ : ∃ m, m = l.length - s := ⟨_, rfl⟩
    have hmi : (l.length : Int) - (s : Int) = (m : Int) := by omega
    have hmk := fun W => run_mk (m : Int) m rfl (by omega) W
    have hsd := fun i (h : s + i < l.length) => shift_digit l hl.1 s k i hk32 h
    rw [← hxk] at hsd
    have HSD := Lib.hid hsd
    have HMM := Lib.hid hmm
    have HXK := Lib.hid hxk
    clear hs hk hxk hsd hmm
    go_enter Tryz.func164, Tryz.ntmps164
    go_wp2_with fail
    obtain ⟨W1, hW1⟩ : ∃ W, W = w.alloc (.cells (words (zer m)) 83) := ⟨_, rfl⟩
    have hb1 : Blk W1 w.heap.size (zer m) := by rw [hW1]; exact Blk.new w (zer m) (zer_lt _)
    have hw1 : Below w.heap.size w W1 := by rw [hW1]; exact ba (b0 _) _
    have ho := hl.off (Nat.le_refl w.heap.size)
    have hl1 := hl.below hw1
    rw [← hW1]
    clear hW1 hmk
    go_loopw [25] (fun iv wr => ∃ (j : Nat) (L : List Nat), iv = .int .i64 (j : Int) ∧ j ≤ m ∧ L.length = m ∧ Blk wr w.heap.size L ∧ Hid (∀ i, i < j → gd L i = val l / 2 ^ x / BB i % 4294967296) ∧ Only w.heap.size W1 wr) (fun iv _ => m - (intOf iv).toNat)
    case atStart => exact ⟨0, zer m, rfl, Nat.zero_le _, zer_length _, hb1, fun i hi => absurd hi (by omega), only_refl _ _⟩
    case round =>
      obtain ⟨j, L, rfl, hj, hL, hb, hd, hO⟩ := hrel
      have HL := Lib.hid hL
      clear hL
      by_cases hlt : j < m
      · have hlti : (j : Int) < (m : Int) := by omega
        obtain ⟨p, hpn⟩ : ∃ p, p = s + j := ⟨_, rfl⟩
        have hpl : p < l.length := by have := HMM.out; omega
        have hp : (s : Int) + (j : Int) = (p : Int) := by omega
        have hwp : IntKind.i64.wrap (p : Int) = (p : Int) := IntWalk.i64_in _ ⟨by omega, by omega⟩
        have hwp1 : IntKind.i64.wrap ((p : Int) + 1) = (p : Int) + 1 := IntWalk.i64_in _ ⟨by omega, by omega⟩
        have hlr := hl1.only hO ho
        have hwa := fun W h => wordAt_any A l.length c ((p : Int) + 1) l W rfl (by omega) (by omega) (by omega) h
        rw [show ((p : Int) + 1).toNat = p + 1 from by omega] at hwa
        obtain ⟨b, off, rfl, hblt, hc⟩ := hlr.at_ (by omega)
        have hc1 := hc p hpl
        have hX := hl.lt p
        have hY := hl.lt (p + 1)
        have hdig := HSD.out j (by omega)
        rw [← hpn] at hdig
        have hor := or64 (gd l p) (gd l (p + 1)) hX hY
        obtain ⟨X, hXe⟩ : ∃ X, X = gd l p := ⟨_, rfl⟩
        obtain ⟨Y, hYe⟩ : ∃ Y, Y = gd l (p + 1) := ⟨_, rfl⟩
        rw [← hXe] at hc1 hX hor hdig
        rw [← hYe] at hwa hY hor hdig
        obtain ⟨T, hT⟩ : ∃ T, T = X + 4294967296 * Y := ⟨_, rfl⟩
        have hTl : T < 18446744073709551616 := by omega
        rw [← hT] at hor hdig
        obtain ⟨Q, hQ⟩ : ∃ Q, Q = T / 2 ^ k := ⟨_, rfl⟩
        have hQi : (T : Int) / 2 ^ k = (Q : Int) := by rw [hQ]; simp
        have hQl : Q ≤ T := by rw [hQ]; exact Nat.div_le_self _ _
        rw [← hQ] at hdig
        have hc2 := hb.cell (i := j) (by rw [HL.out]; exact hlt)
        have hf2 := hb.free j
        have HWA := Lib.hid hwa
        have HDG := Lib.hid hdig
        have hwsr := hlr
        have hpi : (p : Int) < (l.length : Int) := by omega
        have hp0 : (0 : Int) ≤ (p : Int) := by omega
        clear hwa hdig hXe hYe hT hQ hc hpn
        go_wp2_with fail
        go_quiet ((go_at_call 168; with_reducible exact quiet_s (HWA.out _ (hwsr.below (bd (b0 _) _)))))
        go_wp2_with fail
        go_roundw
        case rel =>
          have hset := (hb.draw nq).set_ (i := j) (x := Q % 4294967296) (Nat.mod_lt _ (by decide))
          refine ⟨j + 1, L.set j (Q % 4294967296), by go_num, by omega, by rw [List.length_set]; exact HL.out, by simpa using hset, fun i hi => ?_, (hO.draw _).set_ (.inl rfl) _⟩
          rw [gd_set (by rw [HL.out]; exact hlt)]
          split
          · rename_i h; subst h; exact HDG.out.symm
          · exact hd.out i (by omega)
        case measure => simp [intOf]; omega
      · have he : j = m := by omega
        have hnlt : ¬ (j : Int) < (m : Int) := by omega
        subst he
        go_wp2_with fail
        have hv : val (L.take j) = val l / 2 ^ x := by
          rw [List.take_of_length_le (Nat.le_of_eq HL.out)]
          refine val_digits L _ (fun i hi => hd.out i (by rw [← HL.out]; exact hi)) ?_
          rw [HL.out]
          have h1 := val_lt hl.1
          rw [show l.length = j + s from by have := HMM.out; omega, BB_add] at h1
          refine Nat.lt_of_le_of_lt (Nat.div_le_div_left (Nat.pow_le_pow_right (by decide) (show 32 * s ≤ x by have := HXK.out; omega)) (Nat.two_pow_pos _)) ?_
          rw [← BB_two]
          exact Nat.div_lt_of_lt_mul (by rw [Nat.mul_comm]; exact h1)
        refine (trim_own a _ w.heap.size j j L (val l / 2 ^ x) (by have := HMM.out; omega) (Nat.le_refl _) hw.size hb (Nat.le_of_eq HL.out.symm) hv (bo (bt hw hw1) hO hw.size)).mono ?_
        rintro e w1 h
        obtain ⟨A1, c1, l1, rfl, hR⟩ := h
        go_wp2_with fail
        go_ret
        exact ⟨A1, c1, l1, rfl, hR⟩
end Go.Proofs.YtgljdfblgpdaaaaGreatDoor

/- shiftInto and shiftUp. -/
namespace Go.Proofs.YtgljdfblgpdaaaaGreatDoor
open Go.RowKit

theorem set_mid2 (P S : List Nat) (c v : Nat) (R : List Nat) : (P ++ (S ++ (c :: R))).set (P.length + S.length) v = P ++ (S ++ (v :: R)) := by
  rw [List.set_append_right _ _ (by omega), show P.length + S.length - P.length = S.length from by omega, List.set_append_right _ _ (by omega), Nat.sub_self]
  rfl
theorem gd_mid (P S : List Nat) (c : Nat) (R : List Nat) : gd (P ++ (S ++ (c :: R))) (P.length + S.length) = c := by
  unfold gd
  simp [List.getD_eq_getElem?_getD, List.getElem?_append_right]
/-- The low word of a shifted word, above what is there. -/
theorem or_shift (x k c : Nat) (hk : k < 32) (hx : x < 4294967296) (hc : c < 2 ^ k) : bits BinOp.or IntKind.u32 (c : Int) ((x * 2 ^ k % 4294967296 : Nat) : Int) = ((c + x * 2 ^ k % 4294967296 : Nat) : Int) ∧ c + x * 2 ^ k % 4294967296 < 4294967296 := by
  have e32 : (4294967296 : Nat) = 2 ^ (32 - k) * 2 ^ k := by rw [← Nat.pow_add, show 32 - k + k = 32 from by omega]
  have e1 : x * 2 ^ k % 4294967296 = (x % 2 ^ (32 - k)) * 2 ^ k := by rw [e32, Nat.mul_mod_mul_right]
  have hy : x % 2 ^ (32 - k) < 2 ^ (32 - k) := Nat.mod_lt _ (Nat.two_pow_pos _)
  have hle : (x % 2 ^ (32 - k) + 1) * 2 ^ k ≤ 4294967296 := by rw [e32]; exact Nat.mul_le_mul_right _ hy
  rw [Nat.add_mul, Nat.one_mul] at hle
  rw [e1]
  have hcl : c < 4294967296 := Nat.lt_of_lt_of_le hc (by omega)
  refine ⟨?_, by omega⟩
  rw [u32_or_nat c _ hcl (by omega)]
  congr 1
  have h2 := Nat.shiftLeft_add_eq_or_of_lt (i := k) (b := c) hc (x % 2 ^ (32 - k))
  rw [Nat.shiftLeft_eq] at h2
  rw [Nat.or_comm, ← h2, Nat.add_comm]

set_option maxRecDepth 100000 in
set_option maxHeartbeats 1000000 in
theorem shiftInto_any (w : World) (g m d : Nat) (P : List Nat) (A : Option Addr) (c : Nat) (l : List Nat) (k : Nat) (hk : k < 32) (hm : l.length + 1 ≤ m) (hm2 : l.length ≤ 2000000) (hP : P.length ≤ 4000000) (hg : Blk w g (P ++ ([] ++ (0 :: zer l.length)))) (hl : WS w A l) (ho : Off A l g) :
    Calls Tryz.prog 173 #[.slice (some ⟨g, P.length, none⟩) m d, .slice A l.length c, .int .i64 (k : Int)] w fun e w' => e = .returned (.tuple #[]) ∧ ∃ (S : List Nat) (r : Nat), S.length = l.length ∧ val S + BB l.length * r = val l * 2 ^ k ∧ Blk w' g (P ++ (S ++ [r])) ∧ Only g w w' := by
  go_enter Tryz.func173, Tryz.ntmps173
  go_wp2_with fail
  go_loopw [11] (fun iv wr => ∃ (i : Nat) (S : List Nat) (r : Nat), iv = .int .i64 (i : Int) ∧ i ≤ l.length ∧ S.length = i ∧ r < 2 ^ k ∧ Hid (val S + BB i * r = val (l.take i) * 2 ^ k) ∧ Blk wr g (P ++ (S ++ (r :: zer (l.length - i)))) ∧ Only g w wr) (fun iv _ => l.length - (intOf iv).toNat)
  case atStart => exact ⟨0, [], 0, rfl, Nat.zero_le _, rfl, Nat.two_pow_pos k, by show _ = _; simp [val], hg, only_refl _ _⟩
  case round =>
    obtain ⟨i, S, r, rfl, hi, hS, hr, hv, hb, hO⟩ := hrel
    have HS := Lib.hid hS
    clear hS
    by_cases hlt : i < l.length
    · have hlti : (i : Int) < (l.length : Int) := by omega
      obtain ⟨b, off, rfl, hblt, hc⟩ := (hl.only hO ho).at_ (by omega)
      have hc1 := hc i hlt
      have hx := hl.lt i
      have H1 := Lib.hid (val_take l hlt)
      generalize gd l i = x at *
      obtain ⟨T, hT⟩ : ∃ T, T = x * 2 ^ k := ⟨_, rfl⟩
      have hTl : T < 9223372036854775808 := by
        have h1 : 2 ^ k ≤ 2 ^ 31 := Nat.pow_le_pow_right (by decide) (by omega)
        have h2 := Nat.mul_le_mul (Nat.le_of_lt_succ hx) h1
        rw [hT]; omega
      have hTi : (x : Int) * 2 ^ k = (T : Int) := by rw [hT]; simp
      obtain ⟨hor, horl⟩ := or_shift x k r hk hx hr
      rw [← hT] at hor horl
      obtain ⟨V, hV⟩ : ∃ V, V = r + T % 4294967296 := ⟨_, rfl⟩
      obtain ⟨U, hU⟩ : ∃ U, U = T / 4294967296 := ⟨_, rfl⟩
      have hUi : (T : Int) / 4294967296 = (U : Int) := by rw [hU]; simp
      have hUl : U < 4294967296 := by omega
      rw [← hV, show ((T % 4294967296 : Nat) : Int) = (T : Int) % 4294967296 from by simp] at hor
      rw [← hV] at horl
      have HV := Lib.hid hV
      have HU := Lib.hid hU
      have hrl : r < 4294967296 := by omega
      have HT := Lib.hid hT
      have hLlen : (P ++ (S ++ (r :: zer (l.length - i)))).length = P.length + l.length + 1 := by simp [HS.out, zer_length]; omega
      have hc2 := hb.cell (i := P.length + i) (by rw [hLlen]; omega)
      rw [show gd (P ++ (S ++ (r :: zer (l.length - i)))) (P.length + i) = r from by rw [← HS.out]; exact gd_mid _ _ _ _] at hc2
      have hf2 := hb.free (P.length + i)
      have hnext := (hb.set_ (i := P.length + i) horl)
      have hc3 := hnext.cell (i := P.length + i + 1) (by rw [List.length_set, hLlen]; omega)
      have hf3 := hnext.free (P.length + i + 1)
      rw [Nat.add_assoc] at hc3 hf3
      clear hc hT hLlen hV hU
      go_wp2_with fail
      go_roundw
      case rel =>
        have hfin := hnext.set_ (i := P.length + (i + 1)) hUl
        have eL : ((P ++ (S ++ (r :: zer (l.length - i)))).set (P.length + i) V).set (P.length + (i + 1)) U = P ++ ((S ++ [V]) ++ (U :: zer (l.length - (i + 1)))) := by
          have e1 := set_mid2 P S r V (zer (l.length - i))
          rw [HS.out] at e1
          rw [e1, show l.length - i = (l.length - (i + 1)) + 1 from by omega]
          have e2 := set_mid2 P (S ++ [V]) 0 U (zer (l.length - (i + 1)))
          rw [List.length_append, HS.out] at e2
          rw [show P ++ (S ++ V :: zer (l.length - (i + 1) + 1)) = P ++ (S ++ [V] ++ 0 :: zer (l.length - (i + 1))) from by simp [zer, List.replicate_succ]]
          exact e2
        rw [eL] at hfin
        have hU2 : U < 2 ^ k := by
          rw [HU.out, HT.out]
          exact Nat.div_lt_of_lt_mul (by exact Nat.mul_lt_mul_of_pos_right hx (Nat.two_pow_pos k))
        refine ⟨i + 1, S ++ [V], U, by go_num, by omega, by simp [HS.out], hU2, ?_, hfin, (hO.set_ (.inl rfl) _).set_ (.inl rfl) _⟩
        show _ = _
        rw [val_snoc, HS.out, H1.out, BB_succ, HV.out, HU.out, Nat.add_mul, ← hv.out, Nat.mul_add, Nat.mul_assoc (BB i) 4294967296, Nat.add_assoc, Nat.add_assoc, ← Nat.mul_add, ← Nat.mul_add, Nat.mod_add_div, HT.out, Nat.mul_assoc, Nat.add_assoc, Nat.mul_add]
      case measure => simp [intOf]; omega
    · have he : i = l.length := by omega
      have hnlt : ¬ (i : Int) < (l.length : Int) := by omega
      subst he
      go_wp2_with fail
      go_end0
      refine ⟨rfl, S, HS.out, r, ?_, ?_, hO⟩
      · have := hv.out; rwa [List.take_length] at this
      · rw [Nat.sub_self] at hb; exact hb

theorem val_zer_app (n : Nat) (l : List Nat) : val (zer n ++ l) = BB n * val l := by rw [val_append, val_zer, zer_length, Nat.zero_add]

set_option maxRecDepth 100000 in
set_option maxHeartbeats 1000000 in
theorem shiftUp_any (a w : World) (A : Option Addr) (c : Nat) (l : List Nat) (x : Nat) (hm : l.length ≤ 1000000) (hx : x ≤ 30000000) (hl : WS w A l) (hw : Below a.heap.size a w) :
    Calls Tryz.prog 165 #[.slice A l.length c, .int .i64 (x : Int)] w (Res a (val l * 2 ^ x)) := by
  obtain ⟨s, hs⟩ : ∃ s, s = x / 32 := ⟨_, rfl⟩
  obtain ⟨k, hk⟩ : ∃ k, k = x % 32 := ⟨_, rfl⟩
  have hxk : x = 32 * s + k := by rw [hs, hk]; exact (Nat.div_add_mod x 32).symm
  have hk32 : k < 32 := by rw [hk]; exact Nat.mod_lt _ (by decide)
  have hq1 : (x : Int) / 32 = (s : Int) := by rw [hs]; simp
  have hq2 : (x : Int).tdiv 32 = (s : Int) := by rw [Int.tdiv_eq_ediv_of_nonneg (by omega)]; exact hq1
  have hr1 : (x : Int) % 32 = (k : Int) := by rw [hk]; simp
  have hr2 : (x : Int).tmod 32 = (k : Int) := by rw [Int.tmod_eq_emod_of_nonneg (by omega)]; exact hr1
  by_cases h0 : l.length = 0
  · have hz : ((l.length : Int) == 0) = true := by simp; exact List.eq_nil_of_length_eq_zero h0
    have e0 : val l * 2 ^ x = 0 := by rw [List.eq_nil_of_length_eq_zero h0]; simp [val]
    rw [e0]
    clear hs hk hxk h0 e0
    go_enter Tryz.func165, Tryz.ntmps165
    go_wp2_with fail
    go_ret
    exact ⟨none, 0, [], rfl, Nat.le_refl _, fun h => absurd rfl h, top_nil, rfl, hw⟩
  · have hz : ((l.length : Int) == 0) = false := beq_eq_false_iff_ne.2 (by omega)
    obtain ⟨m, hmm⟩ : ∃ m, m = s + l.length + 1 := ⟨_, rfl⟩
    have hmi : (s : Int) + (l.length : Int) + 1 = (m : Int) := by omega
    have hmk := fun W => run_mk (m : Int) m rfl (by omega) W
    have HMM := Lib.hid hmm
    have HXK := Lib.hid hxk
    have hsm : (s : Int) ≤ (m : Int) := by omega
    have hms : (m : Int) - (s : Int) = ((l.length + 1 : Nat) : Int) := by omega
    clear hs hk hxk hmm
    go_enter Tryz.func165, Tryz.ntmps165
    go_wp2_with fail
    obtain ⟨W1, hW1⟩ : ∃ W, W = w.alloc (.cells (words (zer m)) 83) := ⟨_, rfl⟩
    have ez : zer m = zer s ++ ([] ++ (0 :: zer l.length)) := by
      rw [HMM.out]
      unfold zer
      rw [List.nil_append, ← List.replicate_succ, List.replicate_append_replicate]
      congr 1
    have hb1 : Blk W1 w.heap.size (zer s ++ ([] ++ (0 :: zer l.length))) := by rw [hW1, ← ez]; exact Blk.new w (zer m) (zer_lt _)
    have hw1 : Below w.heap.size w W1 := by rw [hW1]; exact ba (b0 _) _
    rw [← hW1]
    clear hW1 ez
    have hsi := shiftInto_any W1 w.heap.size (m - s) (m - s) (zer s) A c l k hk32 (by have := HMM.out; omega) (by omega) (by rw [zer_length]; omega) hb1 (hl.below hw1) (hl.off (Nat.le_refl _))
    rw [zer_length] at hsi
    refine hsi.mono ?_
    rintro e w2 ⟨rfl, S, r, hS, hv, hb2, hO⟩
    have hlen : (zer s ++ (S ++ [r])).length = m := by simp [zer_length, hS]; have := HMM.out; omega
    have hval : val ((zer s ++ (S ++ [r])).take m) = val l * 2 ^ x := by
      rw [List.take_of_length_le (Nat.le_of_eq hlen), val_zer_app, val_snoc, hS, hv, HXK.out, Nat.pow_add, ← BB_two, Nat.mul_left_comm]
    have HVL := Lib.hid hval
    clear hv hval
    go_wp2_with fail
    refine (trim_own a w2 w.heap.size m m _ (val l * 2 ^ x) (by have := HMM.out; omega) (Nat.le_refl _) hw.size hb2 (Nat.le_of_eq hlen.symm) HVL.out (bo (bt hw hw1) hO hw.size)).mono ?_
    rintro e w3 h
    obtain ⟨A1, c1, l1, rfl, hR⟩ := h
    go_wp2_with fail
    go_ret
    exact ⟨A1, c1, l1, rfl, hR⟩
end Go.Proofs.YtgljdfblgpdaaaaGreatDoor

/-! power and Pow, of small results. -/
namespace Go.Proofs.YtgljdfblgpdaaaaGreatDoor
open Go.RowKit

theorem bitLenAux_gt : ∀ (f x : Nat), x < 2 ^ f → x < 2 ^ Lib.bitLenAux f x
  | 0, x, h => h
  | f + 1, x, h => by
    unfold Lib.bitLenAux
    split
    · rename_i h0; subst h0; decide
    · have h1 := bitLenAux_gt f (x / 2) (by rw [Nat.pow_succ] at h; omega)
      rw [Nat.pow_add, Nat.pow_one]
      omega
theorem bitLen_spec (n : Nat) (h : n < 2 ^ 64) : n < 2 ^ Lib.bitLen n := bitLenAux_gt 64 n h
theorem i64_and1 (n : Int) : bits .and .i64 n 1 = n % 2 := by
  have h1 : (BitVec.ofInt 64 1).toNat = 2 ^ 1 - 1 := by decide
  have key : (BitVec.ofInt 64 n &&& BitVec.ofInt 64 1).toNat = (n % ((2 ^ 64 : Nat) : Int)).toNat % 2 ^ 1 := by
    rw [BitVec.toNat_and, BitVec.toNat_ofInt, h1, Nat.and_two_pow_sub_one_eq_mod]
  show IntKind.i64.wrap ((BitVec.ofInt 64 n &&& BitVec.ofInt 64 1).toNat : Nat) = n % 2
  rw [key, IntKind.wrap_i64]
  omega
theorem and1_div (n i q : Nat) (hq : q = n / 2 ^ i) : bits .and .i64 ((n : Int) / 2 ^ i) 1 = ((q % 2 : Nat) : Int) := by
  have e : (n : Int) / 2 ^ i = ((q : Nat) : Int) := by rw [hq]; simp
  rw [e, i64_and1]; simp

set_option maxRecDepth 100000 in
set_option maxHeartbeats 1000000 in
theorem power_small (w : World) (A : Option Addr) (c : Nat) (l : List Nat) (n : Nat) (hl2 : l.length ≤ 24) (hn : n < 4294967296) (h0 : 0 < val l) (hfit : val l ^ n < BB 24) (tl : Top l) (hl : WS w A l) :
    Calls Tryz.prog 127 #[.slice A l.length c, .int .i64 (n : Int)] w (Res w (val l ^ n)) := by
  go_enter Tryz.func127, Tryz.ntmps127
  go_wp2_with fail
  refine (Tryz.bits_Len (n : Int) _ (by omega) (by omega)).mono ?_
  rintro e w1 ⟨rfl, rfl⟩
  rw [Int.toNat_natCast]
  have hb64 : Lib.bitLen n ≤ 64 := by unfold Lib.bitLen; exact bitLen_le 64 n
  have hone : Blk (w.alloc (.cells #[.int .u32 1] 83)) w.heap.size [1] := Blk.new w [1] (by simp)
  obtain ⟨W1, hW1⟩ : ∃ W, W = w.alloc (.cells #[.int .u32 1] 83) := ⟨_, rfl⟩
  have hw1 : Below w.heap.size w W1 := by rw [hW1]; exact ba (b0 _) _
  rw [← hW1] at hone ⊢
  clear hW1
  have hlt := hl.lt
  have HF := Lib.hid hfit
  have HBL := Lib.hid (bitLen_spec n (by omega))
  clear hfit
  go_wp2_with fail
  go_loopw [5, 6] (fun ov iv wr => ∃ (j : Nat) (A1 : Option Addr) (c1 : Nat) (l1 : List Nat), ov = .slice A1 l1.length c1 ∧ iv = .int .i64 ((j : Int) - 1) ∧ l1.length ≤ c1 ∧ OwnS w wr A1 l1 ∧ Top l1 ∧ Hid (val l1 = val l ^ (n / 2 ^ j)) ∧ j ≤ 64 ∧ Below w.heap.size w wr) (fun _ iv _ => (intOf iv + 1).toNat)
  case atStart => exact ⟨Lib.bitLen n, some ⟨w.heap.size, 0, none⟩, 1, [1], rfl, by go_num, Nat.le_refl _, own_of_blk (Nat.le_refl _) hone, fun _ => by simp [gd], by show _ = _; rw [Nat.div_eq_of_lt HBL.out]; simp [val], hb64, hw1⟩
  case round =>
    obtain ⟨j, A1, c1, l1, rfl, rfl, hc1, ho1, ht1, hv1, hj, hb1⟩ := hrel
    rcases Nat.eq_zero_or_pos j with rfl | hj0
    · go_wp2_with fail
      go_ret
      exact ⟨A1, c1, l1, rfl, hc1, ho1, ht1, by rw [hv1.out]; simp, hb1⟩
    · obtain ⟨i, rfl⟩ : ∃ i, j = i + 1 := ⟨j - 1, by omega⟩
      have hi0 : (0 : Int) ≤ (i : Int) := by omega
      have hdm : n / 2 ^ i = 2 * (n / 2 ^ (i + 1)) + (n / 2 ^ i) % 2 := by
        have e := Nat.div_add_mod (n / 2 ^ i) 2
        rw [show n / 2 ^ (i + 1) = n / 2 ^ i / 2 from by rw [Nat.div_div_eq_div_mul, ← Nat.pow_succ]]
        omega
      have hle1 : n / 2 ^ i ≤ n := Nat.div_le_self _ _
      have hpow : ∀ m, m ≤ n → val l ^ m < BB 24 := fun m hm => Nat.lt_of_le_of_lt (Nat.pow_le_pow_right h0 hm) HF.out
      have hl1 : l1.length ≤ 24 := top_len ht1 (by rw [hv1.out]; exact hpow _ (by omega))
      have HP := Lib.hid hpow
      have HD := Lib.hid hdm
      clear hpow hdm
      go_wp2_with fail
      refine (product_any48 w wr A1 A1 l1.length c1 l1.length c1 l1 l1 rfl rfl (by omega) (by omega) ho1.ws ho1.ws hb1).mono ?_
      rintro e w2 ⟨A2, c2, l2, rfl, hc2, ho2, ht2, hv2, hb2⟩
      have hv2' : val l2 = val l ^ (2 * (n / 2 ^ (i + 1))) := by rw [hv2, hv1.out, ← Nat.pow_add]; congr 1; omega
      have HV2 := Lib.hid hv2'
      have hl2' : l2.length ≤ 24 := top_len ht2 (by rw [hv2']; exact HP.out _ (by have := HD.out; omega))
      clear hv2 hv2'
      obtain ⟨q, hq⟩ : ∃ q, q = n / 2 ^ i := ⟨_, rfl⟩
      rw [← hq] at HD hle1
      have hand := and1_div n i q hq
      have HQ := Lib.hid hq
      clear hq
      rcases Nat.mod_two_eq_zero_or_one q with hq2 | hq2
      · rw [hq2] at hand
        have HQ2 := Lib.hid hq2
        clear hq2
        go_wp2_with fail
        go_roundw
        case rel => exact ⟨i, A2, c2, l2, rfl, by go_num, hc2, ho2, ht2, by show _ = _; rw [HV2.out, ← HQ.out]; congr 1; have := HD.out; have := HQ2.out; omega, by omega, hb2⟩
        case measure => simp [intOf]
      · rw [hq2] at hand
        have HQ2 := Lib.hid hq2
        clear hq2
        go_wp2_with fail
        refine (product_any48 w w2 A2 A l2.length c2 l.length c l2 l rfl rfl (by omega) (by omega) ho2.ws (hl.below hb2) hb2).mono ?_
        rintro e w3 ⟨A3, c3, l3, rfl, hc3, ho3, ht3, hv3, hb3⟩
        have HV3 := Lib.hid hv3
        clear hv3
        go_wp2_with fail
        go_roundw
        case rel => exact ⟨i, A3, c3, l3, rfl, by go_num, hc3, ho3, ht3, by show _ = _; rw [HV3.out, HV2.out, ← Nat.pow_succ, ← HQ.out]; congr 1; have := HD.out; have := HQ2.out; omega, by omega, hb3⟩
        case measure => simp [intOf]
end Go.Proofs.YtgljdfblgpdaaaaGreatDoor

/- Pow, of small results. -/
namespace Go.Proofs.YtgljdfblgpdaaaaGreatDoor
open Go.RowKit

theorem zI_pow (neg : Bool) (l k : List Nat) (n : Nat) (h : val k = val l ^ n) : zI (neg && decide (n % 2 = 1)) k = zI neg l ^ n := by
  have hs : ∀ m : Nat, ((-(val l : Int)) ^ m) = if m % 2 = 1 then -((val l : Int) ^ m) else (val l : Int) ^ m := by
    intro m
    induction m with
    | zero => simp
    | succ m ih =>
      rw [Int.pow_succ, ih, Int.pow_succ]
      rcases Nat.mod_two_eq_zero_or_one m with hm | hm
      · rw [if_neg (by omega), if_pos (by omega), Int.mul_neg]
      · rw [if_pos hm, if_neg (by omega), Int.neg_mul_neg]
  unfold zI
  cases neg
  · simp [h]
  · simp only [Bool.true_and, decide_eq_true_eq, if_true]
    rw [hs n, h]
    simp

set_option maxRecDepth 100000 in
set_option maxHeartbeats 400000 in
theorem Pow_small (a w : World) (neg : Bool) (A : Option Addr) (c : Nat) (l : List Nat) (n : Nat) (hl2 : l.length ≤ 24) (hn : n < 4294967296) (h0 : 0 < val l) (hfit : val l ^ n < BB 24) (hB : isB neg l = true) (hlim : ¬ (1 < bl l ∧ 1048576 / bl l < n)) (hl : WS w A l) (hw : Below a.heap.size a w) :
    Calls Tryz.prog 72 #[.agg #[.bool neg, .slice A l.length c], .int .i64 (n : Int)] w fun e w' => ∃ n1 A1 c1 l1, e = .returned (.tuple #[.agg #[.bool n1, .slice A1 l1.length c1], .int .i64 0]) ∧ IP a w' n1 A1 c1 l1 (zI neg l ^ n) ∧ Below a.heap.size a w' := by
  have HB := Lib.hid hB
  have HF := Lib.hid hfit
  have hz := fun l1 h => zI_pow neg l l1 n h
  have HZ := Lib.hid hz
  clear hB hfit hz
  have hmod : (n : Int).tmod 2 = ((n % 2 : Nat) : Int) := by rw [Int.tmod_eq_emod_of_nonneg (by omega)]; simp
  have hnn : ¬ (n : Int) < 0 := by omega
  have hdec : ((((n % 2 : Nat) : Int) == 1) : Bool) = decide (n % 2 = 1) := by rcases Nat.mod_two_eq_zero_or_one n with h | h <;> rw [h] <;> rfl
  go_enter Tryz.func72, Tryz.ntmps72
  go_wp2_with fail
  refine (Is_any neg A _ c l _ rfl (by omega) (hl.below (ba (ba (b0 _) _) _))).mono ?_
  rintro e w1 ⟨rfl, hb⟩
  rw [HB.out]
  have hbx := (Box2.new (w.alloc (.cells #[.bool neg, .slice A l.length c] 24)) (.bool false) (.slice none 0 0)).below hb
  rw [World.size_alloc] at hbx
  have hby := ((Box2.new w (.bool neg) (.slice A l.length c)).alloc (.cells #[.bool false, .slice none 0 0] 24)).below hb
  have y0 := hby.cell0
  have y1 := hby.cell1
  have hl1 : WS w1 A l := hl.below (bt (ba (ba (b0 _) _) _) hb)
  go_wp2_with fail
  refine (bitLen_any A _ c l _ rfl (by omega) hl1).mono ?_
  rintro e w2 ⟨rfl, rfl⟩
  obtain ⟨m, hm⟩ : ∃ m, m = bl l := ⟨_, rfl⟩
  rw [← hm] at hlim ⊢
  clear hm hdec hnn
  have hnn : ¬ (n : Int) < 0 := by omega
  by_cases hb1 : 1 < m
  · have hbi : (1 : Int) < (m : Int) := by omega
    have hm0 : ((m : Int) == 0) = false := beq_eq_false_iff_ne.2 (by omega)
    have hdiv : (1048576 : Int).tdiv (m : Int) = ((1048576 / m : Nat) : Int) := by rw [Int.tdiv_eq_ediv_of_nonneg (by omega)]; simp
    have hdle : 1048576 / m ≤ 1048576 := Nat.div_le_self _ _
    have hng : ¬ ((1048576 / m : Nat) : Int) < (n : Int) := by
      have h : ¬ 1048576 / m < n := fun h => hlim ⟨hb1, h⟩
      omega
    obtain ⟨d, hd⟩ : ∃ d, d = 1048576 / m := ⟨_, rfl⟩
    rw [← hd] at hdiv hdle hng
    clear hd hlim hb1
    cases neg
    · go_wp2_with fail
      refine (power_small _ A c l n hl2 hn h0 HF.out (isB_top HB.out) hl1).mono ?_
      rintro e w3 ⟨A3, c3, l3, rfl, hc3, ho3, ht3, hv3, hb3⟩
      have hl3 : l3.length ≤ 24 := top_len ht3 (by rw [hv3]; exact HF.out)
      have HV3 := Lib.hid hv3
      clear hv3
      go_wp2_with fail
      refine (signed_ip w1 w3 false A3 c3 l3 (by omega) hc3 ho3 ht3).mono ?_
      rintro e w4 ⟨⟨n4, A4, c4, l4, rfl, hi4, hl4⟩, hb4⟩
      have hbx4 := (hbx.below hb3).below hb4
      have x0 := hbx4.cell0
      have x1 := hbx4.cell1
      have f0 := hbx4.free 0
      have f1 := hbx4.free 1
      obtain ⟨k0, k1, k2⟩ := hbx4.back (.bool n4) (.slice A4 l4.length c4)
      go_wp2_with fail
      refine bodyPost_ret (v := .tuple #[.agg #[.bool n4, .slice A4 l4.length c4], .int .i64 0]) (by simp [results, Tryz.results72, go_sem, k0, k2]) rfl ?_
      have hs := hw.size
      have hsb := hb.size
      rw [World.size_alloc, World.size_alloc] at hsb
      have h5 := (hi4.two (p := w.heap.size + 1) (by omega) (.bool n4) (.slice A4 l4.length c4)).mono (a := a) (by omega)
      have hz := HZ.out l3 HV3.out
      rw [Bool.false_and] at hz
      refine ⟨n4, A4, c4, l4, rfl, ?_, b2 (bt (bt (bt hw (bt (ba (ba (b0 _) _) _) hb)) hb3) hb4) (by omega) _ _⟩
      rw [← hz]
      exact h5
    · rcases Nat.mod_two_eq_zero_or_one n with hq2 | hq2
      · rw [hq2] at hmod
        have HQ2 := Lib.hid hq2
        clear hq2
        go_wp2_with fail
        refine (power_small _ A c l n hl2 hn h0 HF.out (isB_top HB.out) hl1).mono ?_
        rintro e w3 ⟨A3, c3, l3, rfl, hc3, ho3, ht3, hv3, hb3⟩
        have hl3 : l3.length ≤ 24 := top_len ht3 (by rw [hv3]; exact HF.out)
        have HV3 := Lib.hid hv3
        clear hv3
        go_wp2_with fail
        refine (signed_ip w1 w3 false A3 c3 l3 (by omega) hc3 ho3 ht3).mono ?_
        rintro e w4 ⟨⟨n4, A4, c4, l4, rfl, hi4, hl4⟩, hb4⟩
        have hbx4 := (hbx.below hb3).below hb4
        have x0 := hbx4.cell0
        have x1 := hbx4.cell1
        have f0 := hbx4.free 0
        have f1 := hbx4.free 1
        obtain ⟨k0, k1, k2⟩ := hbx4.back (.bool n4) (.slice A4 l4.length c4)
        go_wp2_with fail
        refine bodyPost_ret (v := .tuple #[.agg #[.bool n4, .slice A4 l4.length c4], .int .i64 0]) (by simp [results, Tryz.results72, go_sem, k0, k2]) rfl ?_
        have hs := hw.size
        have hsb := hb.size
        rw [World.size_alloc, World.size_alloc] at hsb
        have h5 := (hi4.two (p := w.heap.size + 1) (by omega) (.bool n4) (.slice A4 l4.length c4)).mono (a := a) (by omega)
        have hz := HZ.out l3 HV3.out
        rw [HQ2.out, show (true && decide (0 = 1)) = false from rfl] at hz
        refine ⟨n4, A4, c4, l4, rfl, ?_, b2 (bt (bt (bt hw (bt (ba (ba (b0 _) _) _) hb)) hb3) hb4) (by omega) _ _⟩
        rw [← hz]
        exact h5
      · rw [hq2] at hmod
        have HQ2 := Lib.hid hq2
        clear hq2
        go_wp2_with fail
        refine (power_small _ A c l n hl2 hn h0 HF.out (isB_top HB.out) hl1).mono ?_
        rintro e w3 ⟨A3, c3, l3, rfl, hc3, ho3, ht3, hv3, hb3⟩
        have hl3 : l3.length ≤ 24 := top_len ht3 (by rw [hv3]; exact HF.out)
        have HV3 := Lib.hid hv3
        clear hv3
        go_wp2_with fail
        refine (signed_ip w1 w3 true A3 c3 l3 (by omega) hc3 ho3 ht3).mono ?_
        rintro e w4 ⟨⟨n4, A4, c4, l4, rfl, hi4, hl4⟩, hb4⟩
        have hbx4 := (hbx.below hb3).below hb4
        have x0 := hbx4.cell0
        have x1 := hbx4.cell1
        have f0 := hbx4.free 0
        have f1 := hbx4.free 1
        obtain ⟨k0, k1, k2⟩ := hbx4.back (.bool n4) (.slice A4 l4.length c4)
        go_wp2_with fail
        refine bodyPost_ret (v := .tuple #[.agg #[.bool n4, .slice A4 l4.length c4], .int .i64 0]) (by simp [results, Tryz.results72, go_sem, k0, k2]) rfl ?_
        have hs := hw.size
        have hsb := hb.size
        rw [World.size_alloc, World.size_alloc] at hsb
        have h5 := (hi4.two (p := w.heap.size + 1) (by omega) (.bool n4) (.slice A4 l4.length c4)).mono (a := a) (by omega)
        have hz := HZ.out l3 HV3.out
        rw [HQ2.out, show (true && decide (1 = 1)) = true from rfl] at hz
        refine ⟨n4, A4, c4, l4, rfl, ?_, b2 (bt (bt (bt hw (bt (ba (ba (b0 _) _) _) hb)) hb3) hb4) (by omega) _ _⟩
        rw [← hz]
        exact h5
  · have hbi : ¬ (1 : Int) < (m : Int) := by omega
    clear hlim hb1
    cases neg
    · go_wp2_with fail
      refine (power_small _ A c l n hl2 hn h0 HF.out (isB_top HB.out) hl1).mono ?_
      rintro e w3 ⟨A3, c3, l3, rfl, hc3, ho3, ht3, hv3, hb3⟩
      have hl3 : l3.length ≤ 24 := top_len ht3 (by rw [hv3]; exact HF.out)
      have HV3 := Lib.hid hv3
      clear hv3
      go_wp2_with fail
      refine (signed_ip w1 w3 false A3 c3 l3 (by omega) hc3 ho3 ht3).mono ?_
      rintro e w4 ⟨⟨n4, A4, c4, l4, rfl, hi4, hl4⟩, hb4⟩
      have hbx4 := (hbx.below hb3).below hb4
      have x0 := hbx4.cell0
      have x1 := hbx4.cell1
      have f0 := hbx4.free 0
      have f1 := hbx4.free 1
      obtain ⟨k0, k1, k2⟩ := hbx4.back (.bool n4) (.slice A4 l4.length c4)
      go_wp2_with fail
      refine bodyPost_ret (v := .tuple #[.agg #[.bool n4, .slice A4 l4.length c4], .int .i64 0]) (by simp [results, Tryz.results72, go_sem, k0, k2]) rfl ?_
      have hs := hw.size
      have hsb := hb.size
      rw [World.size_alloc, World.size_alloc] at hsb
      have h5 := (hi4.two (p := w.heap.size + 1) (by omega) (.bool n4) (.slice A4 l4.length c4)).mono (a := a) (by omega)
      have hz := HZ.out l3 HV3.out
      rw [Bool.false_and] at hz
      refine ⟨n4, A4, c4, l4, rfl, ?_, b2 (bt (bt (bt hw (bt (ba (ba (b0 _) _) _) hb)) hb3) hb4) (by omega) _ _⟩
      rw [← hz]
      exact h5
    · rcases Nat.mod_two_eq_zero_or_one n with hq2 | hq2
      · rw [hq2] at hmod
        have HQ2 := Lib.hid hq2
        clear hq2
        go_wp2_with fail
        refine (power_small _ A c l n hl2 hn h0 HF.out (isB_top HB.out) hl1).mono ?_
        rintro e w3 ⟨A3, c3, l3, rfl, hc3, ho3, ht3, hv3, hb3⟩
        have hl3 : l3.length ≤ 24 := top_len ht3 (by rw [hv3]; exact HF.out)
        have HV3 := Lib.hid hv3
        clear hv3
        go_wp2_with fail
        refine (signed_ip w1 w3 false A3 c3 l3 (by omega) hc3 ho3 ht3).mono ?_
        rintro e w4 ⟨⟨n4, A4, c4, l4, rfl, hi4, hl4⟩, hb4⟩
        have hbx4 := (hbx.below hb3).below hb4
        have x0 := hbx4.cell0
        have x1 := hbx4.cell1
        have f0 := hbx4.free 0
        have f1 := hbx4.free 1
        obtain ⟨k0, k1, k2⟩ := hbx4.back (.bool n4) (.slice A4 l4.length c4)
        go_wp2_with fail
        refine bodyPost_ret (v := .tuple #[.agg #[.bool n4, .slice A4 l4.length c4], .int .i64 0]) (by simp [results, Tryz.results72, go_sem, k0, k2]) rfl ?_
        have hs := hw.size
        have hsb := hb.size
        rw [World.size_alloc, World.size_alloc] at hsb
        have h5 := (hi4.two (p := w.heap.size + 1) (by omega) (.bool n4) (.slice A4 l4.length c4)).mono (a := a) (by omega)
        have hz := HZ.out l3 HV3.out
        rw [HQ2.out, show (true && decide (0 = 1)) = false from rfl] at hz
        refine ⟨n4, A4, c4, l4, rfl, ?_, b2 (bt (bt (bt hw (bt (ba (ba (b0 _) _) _) hb)) hb3) hb4) (by omega) _ _⟩
        rw [← hz]
        exact h5
      · rw [hq2] at hmod
        have HQ2 := Lib.hid hq2
        clear hq2
        go_wp2_with fail
        refine (power_small _ A c l n hl2 hn h0 HF.out (isB_top HB.out) hl1).mono ?_
        rintro e w3 ⟨A3, c3, l3, rfl, hc3, ho3, ht3, hv3, hb3⟩
        have hl3 : l3.length ≤ 24 := top_len ht3 (by rw [hv3]; exact HF.out)
        have HV3 := Lib.hid hv3
        clear hv3
        go_wp2_with fail
        refine (signed_ip w1 w3 true A3 c3 l3 (by omega) hc3 ho3 ht3).mono ?_
        rintro e w4 ⟨⟨n4, A4, c4, l4, rfl, hi4, hl4⟩, hb4⟩
        have hbx4 := (hbx.below hb3).below hb4
        have x0 := hbx4.cell0
        have x1 := hbx4.cell1
        have f0 := hbx4.free 0
        have f1 := hbx4.free 1
        obtain ⟨k0, k1, k2⟩ := hbx4.back (.bool n4) (.slice A4 l4.length c4)
        go_wp2_with fail
        refine bodyPost_ret (v := .tuple #[.agg #[.bool n4, .slice A4 l4.length c4], .int .i64 0]) (by simp [results, Tryz.results72, go_sem, k0, k2]) rfl ?_
        have hs := hw.size
        have hsb := hb.size
        rw [World.size_alloc, World.size_alloc] at hsb
        have h5 := (hi4.two (p := w.heap.size + 1) (by omega) (.bool n4) (.slice A4 l4.length c4)).mono (a := a) (by omega)
        have hz := HZ.out l3 HV3.out
        rw [HQ2.out, show (true && decide (1 = 1)) = true from rfl] at hz
        refine ⟨n4, A4, c4, l4, rfl, ?_, b2 (bt (bt (bt hw (bt (ba (ba (b0 _) _) _) hb)) hb3) hb4) (by omega) _ _⟩
        rw [← hz]
        exact h5
end Go.Proofs.YtgljdfblgpdaaaaGreatDoor

/-! root, of at most two words: the walk, for whatever its steps keep. -/
namespace Go.Proofs.YtgljdfblgpdaaaaGreatDoor
open Go.RowKit

/-- One step of the root: from the root a of the number of e bits to that of d bits. -/
def rootStep (W h e d a : Nat) : Nat := a * 2 ^ (d - e - 1) + W / 2 ^ (2 * h - e - d + 1) / a

set_option maxRecDepth 100000 in
set_option maxHeartbeats 1000000 in
theorem root_walk (w : World) (A : Option Addr) (c : Nat) (l : List Nat) (h : Nat) (Inv : Nat → Nat → Prop) (hl2 : l.length ≤ 2) (hh : h = (bl l - 1) / 2) (h0 : 0 < val l) (tl : Top l) (hl : WS w A l)
    (hs : Inv 0 1) (hst : ∀ i a, 2 ^ i ≤ h → Inv (h / 2 ^ (i + 1)) a → Inv (h / 2 ^ i) (rootStep (val l) h (h / 2 ^ (i + 1)) (h / 2 ^ i) a)) (hpos : ∀ e a, Inv e a → 0 < a ∧ a < BB 2) :
    Calls Tryz.prog 128 #[.slice A l.length c] w fun e w' => ∃ a, Inv h a ∧ Res w (if val l < a * a then a - 1 else a) e w' := by
  have hlp : 0 < l.length := Nat.pos_of_ne_zero (fun h => by have := (val_eq_zero tl).2 h; omega)
  have hz : ((l.length : Int) == 0) = false := beq_eq_false_iff_ne.2 (by omega)
  have hbl : bl l ≤ 96 := by unfold bl; rw [if_neg (by omega)]; have := bitLen_le 64 (gd l (l.length - 1)); have e : Lib.bitLen (gd l (l.length - 1)) ≤ 64 := this; omega
  have hh1 : ((bl l : Int) - 1).tdiv 2 = (h : Int) := by
    have hb1 : 1 ≤ bl l := by
      unfold bl; rw [if_neg (by omega)]
      have hx := tl hlp
      have := bitLen_half (x := gd l (l.length - 1)) hx (Nat.lt_trans (hl.lt _) (by decide))
      omega
    rw [Int.tdiv_eq_ediv_of_nonneg (by omega), hh]; omega
  have hh2 : ((bl l : Int) - 1) / 2 = (h : Int) := by
    have hb1 : 1 ≤ bl l := by
      unfold bl; rw [if_neg (by omega)]
      have hx := tl hlp
      have := bitLen_half (x := gd l (l.length - 1)) hx (Nat.lt_trans (hl.lt _) (by decide))
      omega
    omega
  have hhl : h ≤ 48 := by omega
  have HS := Lib.hid hs
  have HST := Lib.hid hst
  have HPOS := Lib.hid hpos
  clear hh hs hst hpos
  go_enter Tryz.func128, Tryz.ntmps128
  go_wp2_with fail
  refine (bitLen_any A _ c l _ rfl (by omega) hl).mono ?_
  rintro e w1 ⟨rfl, rfl⟩
  go_wp2_with fail
  refine (Tryz.bits_Len (h : Int) _ (by omega) (by omega)).mono ?_
  rintro e w1 ⟨rfl, rfl⟩
  rw [Int.toNat_natCast]
  have hb64 : Lib.bitLen h ≤ 64 := by unfold Lib.bitLen; exact bitLen_le 64 h
  have hone : Blk (w.alloc (.cells #[.int .u32 1] 83)) w.heap.size [1] := Blk.new w [1] (by simp)
  obtain ⟨W1, hW1⟩ : ∃ W, W = w.alloc (.cells #[.int .u32 1] 83) := ⟨_, rfl⟩
  have hw1 : Below w.heap.size w W1 := by rw [hW1]; exact ba (b0 _) _
  rw [← hW1] at hone ⊢
  clear hW1
  have HBL := Lib.hid (bitLen_spec h (by omega))
  have HBG := Lib.hid (fun i (hi : i < Lib.bitLen h) => show 2 ^ i ≤ h from by
    rcases Nat.lt_or_ge h (2 ^ i) with h1 | h1
    · have := Lib.bitLen_le h i (by omega) h1; omega
    · exact h1)
  go_wp2_with fail
  go_loopw [4, 5, 6] (fun ov dv iv wr => ∃ (j : Nat) (A1 : Option Addr) (c1 : Nat) (l1 : List Nat), ov = .slice A1 l1.length c1 ∧ dv = .int .i64 ((h / 2 ^ j : Nat) : Int) ∧ iv = .int .i64 ((j : Int) - 1) ∧ l1.length ≤ c1 ∧ OwnS w wr A1 l1 ∧ Top l1 ∧ Hid (Inv (h / 2 ^ j) (val l1)) ∧ j ≤ Lib.bitLen h ∧ Below w.heap.size w wr) (fun _ _ iv _ => (intOf iv + 1).toNat)
  case atStart => exact ⟨Lib.bitLen h, some ⟨w.heap.size, 0, none⟩, 1, [1], rfl, by rw [Nat.div_eq_of_lt HBL.out]; rfl, by go_num, Nat.le_refl _, own_of_blk (Nat.le_refl _) hone, fun _ => by simp [gd], by show Inv _ _; rw [Nat.div_eq_of_lt HBL.out]; simpa [val] using HS.out, Nat.le_refl _, hw1⟩
  case round =>
    obtain ⟨j, A1, c1, l1, rfl, rfl, rfl, hc1, ho1, ht1, hv1, hj, hb1⟩ := hrel
    obtain ⟨hp1, hp2⟩ := HPOS.out _ _ hv1.out
    have hl1 : l1.length ≤ 2 := top_len ht1 hp2
    rcases Nat.eq_zero_or_pos j with rfl | hj0
    · have hv0 : Inv h (val l1) := by have := hv1.out; rwa [Nat.pow_zero, Nat.div_one] at this
      have HV0 := Lib.hid hv0
      have hlen1 : 1 ≤ l1.length := Nat.pos_of_ne_zero (fun h => by have := (val_eq_zero ht1).2 h; omega)
      clear hv0
      go_wp2_with fail
      refine (product_any48 wr wr A1 A1 l1.length c1 l1.length c1 l1 l1 rfl rfl (by omega) (by omega) ho1.ws ho1.ws (b0 _)).mono ?_
      rintro e w2 ⟨A2, c2, l2, rfl, hc2, ho2, ht2, hv2, hb2⟩
      have hl2' : l2.length ≤ 4 := top_len ht2 (by rw [hv2, show (4 : Nat) = 2 + 2 from rfl, BB_add]; exact Nat.mul_lt_mul_of_lt_of_lt hp2 hp2)
      have HV2 := Lib.hid hv2
      clear hv2
      go_wp2_with fail
      refine (compare_any A2 A l2.length c2 l.length c l2 l w2 rfl rfl (by omega) (by omega) ht2 tl ho2.ws (hl.below (bt hb1 hb2))).mono ?_
      rintro e w3 ⟨rfl, hb3⟩
      rw [HV2.out]
      by_cases hgt : val l < val l1 * val l1
      · have hci : (0 : Int) < cmpN (val l1 * val l1) (val l) := by unfold cmpN; rw [if_neg (by omega), if_neg (by omega)]; omega
        have HG := Lib.hid hgt
        clear hgt
        go_wp2_with fail
        obtain ⟨W4, hW4⟩ : ∃ W, W = w3.alloc (.cells #[.int .u32 1] 83) := ⟨_, rfl⟩
        have hone4 : Blk W4 w3.heap.size [1] := by rw [hW4]; exact Blk.new w3 [1] (by simp)
        have h34 : Below w3.heap.size w3 W4 := by rw [hW4]; exact ba (b0 _) _
        rw [← hW4]
        clear hW4
        have hws := hone4.ws (o := 0) (n := 1) (by simp)
        rw [List.drop_zero, show List.take 1 [1] = [1] from rfl] at hws
        refine (difference_any W4 W4 A1 _ l1.length c1 1 1 l1 [1] rfl rfl hlen1 (by omega) (by simp [val]; omega) (ho1.ws.below (bt (bt hb2 hb3) h34)) hws (b0 _)).mono ?_
        rintro e w5 ⟨A5, c5, l5, rfl, hc5, ho5, ht5, hv5, hb5⟩
        have HV5 := Lib.hid hv5
        clear hv5
        go_wp2_with fail
        go_ret
        have hw4 := bt hb1 (bt (bt hb2 hb3) h34)
        exact ⟨val l1, HV0.out, A5, c5, l5, rfl, hc5, ho5.mono hw4.size, ht5, by rw [if_pos HG.out, HV5.out]; simp [val], bt hw4 hb5⟩
      · have hci : ¬ (0 : Int) < cmpN (val l1 * val l1) (val l) := by unfold cmpN; split <;> (try split) <;> omega
        have HG := Lib.hid hgt
        clear hgt
        go_wp2_with fail
        go_ret
        exact ⟨val l1, HV0.out, A1, c1, l1, rfl, hc1, ho1.below (bt hb2 hb3), ht1, by rw [if_neg HG.out], bt hb1 (bt hb2 hb3)⟩
    · obtain ⟨i, rfl⟩ : ∃ i, j = i + 1 := ⟨j - 1, by omega⟩
      have hi0 : (0 : Int) ≤ (i : Int) := by omega
      have hge := HBG.out i (by omega)
      have hstep := HST.out i _ hge hv1.out
      have hinv := HPOS.out _ _ hstep
      obtain ⟨d, hd⟩ : ∃ d, d = h / 2 ^ i := ⟨_, rfl⟩
      obtain ⟨e, he⟩ : ∃ e, e = h / 2 ^ (i + 1) := ⟨_, rfl⟩
      have hed : e = d / 2 := by rw [he, hd, Nat.div_div_eq_div_mul, ← Nat.pow_succ]
      have hd1 : 1 ≤ d := by rw [hd]; exact (Nat.le_div_iff_mul_le (Nat.two_pow_pos i)).2 (by omega)
      have hdh : d ≤ h := by rw [hd]; exact Nat.div_le_self _ _
      have hdi : (h : Int) / 2 ^ i = (d : Int) := by rw [hd]; simp
      rw [← he] at hstep hv1 ⊢
      rw [← hd] at hstep
      obtain ⟨n1, hn1⟩ : ∃ n1, n1 = 2 * h - e - d + 1 := ⟨_, rfl⟩
      obtain ⟨n2, hn2⟩ : ∃ n2, n2 = d - e - 1 := ⟨_, rfl⟩
      have hn1i : 2 * (h : Int) - (e : Int) - (d : Int) + 1 = (n1 : Int) := by omega
      have hn2i : (d : Int) - (e : Int) - 1 = (n2 : Int) := by omega
      unfold rootStep at hstep
      rw [← hn1, ← hn2] at hstep
      have hn1l : n1 ≤ 1000 := by omega
      have hn2l : n2 ≤ 1000 := by omega
      have hehl : e ≤ h := by omega
      have HSTEP := Lib.hid hstep
      have HD := Lib.hid hd
      clear hge hstep hinv he hed hn1 hn2 hd
      go_wp2_with fail
      refine (shiftDown_any wr wr A c l n1 (by omega) (by omega) (hl.below hb1) (b0 _)).mono ?_
      rintro e w2 ⟨A2, c2, l2, rfl, hc2, ho2, ht2, hv2, hb2⟩
      have hl2' : l2.length ≤ 2 := top_len ht2 (by rw [hv2]; exact Nat.lt_of_le_of_lt (Nat.div_le_self _ _) (Nat.lt_of_lt_of_le (val_lt hl.1) (BB_mono hl2)))
      have HV2 := Lib.hid hv2
      clear hv2
      go_wp2_with fail
      refine (divide_small w2 w2 A2 A1 l2.length c2 l1.length c1 l2 l1 rfl rfl hl2' hl1 ho2.ws (ho1.ws.below hb2) (Nat.ne_of_gt hp1) (b0 _)).mono ?_
      rintro e w3 ⟨A3, c3, l3, B3, d3, k3, rfl, hc3, ho3, ht3, hv3, _, _, _, _, hb3⟩
      have HV3 := Lib.hid hv3
      clear hv3
      go_wp2_with fail
      refine (shiftUp_any w3 w3 A1 c1 l1 n2 (by omega) (by omega) (ho1.ws.below (bt hb2 hb3)) (b0 _)).mono ?_
      rintro e w4 ⟨A4, c4, l4, rfl, hc4, ho4, ht4, hv4, hb4⟩
      have hsum : val l4 + val l3 = val l1 * 2 ^ n2 + val l / 2 ^ n1 / val l1 := by rw [hv4, HV3.out, HV2.out]
      have hinv2 := (HPOS.out _ _ HSTEP.out).2
      have hl4 : l4.length ≤ 2 := top_len ht4 (by omega)
      have hl3 : l3.length ≤ 2 := top_len ht3 (by omega)
      have HSUM := Lib.hid hsum
      clear hsum hinv2 hv4
      go_wp2_with fail
      refine (sum_any w4 w4 A4 A3 l4.length c4 l3.length c3 l4 l3 rfl rfl (by omega) (by omega) ho4.ws (ho3.ws.below hb4) (b0 _)).mono ?_
      rintro e w5 ⟨A5, c5, l5, rfl, hc5, ho5, ht5, hv5, hb5⟩
      have HV5 := Lib.hid hv5
      clear hv5
      have hw5 := bt hb1 (bt (bt (bt hb2 hb3) hb4) hb5)
      have hs4 := (bt hb1 (bt (bt hb2 hb3) hb4)).size
      go_wp2_with fail
      go_roundw
      case rel => exact ⟨i, A5, c5, l5, rfl, by rw [HD.out], by go_num, hc5, ho5.mono hs4, ht5, by show Inv _ _; rw [HV5.out, HSUM.out, ← HD.out]; exact HSTEP.out, by omega, hw5⟩
      case measure => simp [intOf]
end Go.Proofs.YtgljdfblgpdaaaaGreatDoor

/- Sqrt of at most two words, for whatever root's steps keep. -/
namespace Go.Proofs.YtgljdfblgpdaaaaGreatDoor
open Go.RowKit

set_option maxRecDepth 100000 in
set_option maxHeartbeats 400000 in
theorem Sqrt_walk (a w : World) (A : Option Addr) (c : Nat) (l : List Nat) (h : Nat) (Inv : Nat → Nat → Prop) (hl2 : l.length ≤ 2) (hh : h = (bl l - 1) / 2) (h0 : 0 < val l) (hB : isB false l = true) (hl : WS w A l)
    (hs : Inv 0 1) (hst : ∀ i a, 2 ^ i ≤ h → Inv (h / 2 ^ (i + 1)) a → Inv (h / 2 ^ i) (rootStep (val l) h (h / 2 ^ (i + 1)) (h / 2 ^ i) a)) (hpos : ∀ e a, Inv e a → 0 < a ∧ a < BB 2) (hw : Below a.heap.size a w) :
    Calls Tryz.prog 73 #[.agg #[.bool false, .slice A l.length c]] w fun e w' => ∃ r n1 A1 c1 l1, Inv h r ∧ e = .returned (.tuple #[.agg #[.bool n1, .slice A1 l1.length c1], .int .i64 0]) ∧ IP a w' n1 A1 c1 l1 ((if val l < r * r then r - 1 else r : Nat) : Int) ∧ Below a.heap.size a w' := by
  have HB := Lib.hid hB
  have HRW := Lib.hid (fun (W : World) hW => root_walk W A c l h Inv hl2 hh h0 (isB_top hB) hW hs hst hpos)
  have HPOS := Lib.hid hpos
  clear hB hh h0 hs hst hpos
  go_enter Tryz.func73, Tryz.ntmps73
  go_wp2_with fail
  refine (Is_any false A _ c l _ rfl (by omega) (hl.below (ba (ba (b0 _) _) _))).mono ?_
  rintro e w1 ⟨rfl, hb⟩
  rw [HB.out]
  have hbx := (Box2.new (w.alloc (.cells #[.bool false, .slice A l.length c] 24)) (.bool false) (.slice none 0 0)).below hb
  rw [World.size_alloc] at hbx
  have hby := ((Box2.new w (.bool false) (.slice A l.length c)).alloc (.cells #[.bool false, .slice none 0 0] 24)).below hb
  have y0 := hby.cell0
  have y1 := hby.cell1
  have hl1 : WS w1 A l := hl.below (bt (ba (ba (b0 _) _) _) hb)
  go_wp2_with fail
  refine (HRW.out w1 hl1).mono ?_
  rintro e w3 ⟨r, hr, A3, c3, l3, rfl, hc3, ho3, ht3, hv3, hb3⟩
  have hl3 : l3.length ≤ 2 := top_len ht3 (by have := (HPOS.out _ _ hr).2; rw [hv3]; split <;> omega)
  have HV3 := Lib.hid hv3
  have HR := Lib.hid hr
  clear hv3 hr
  go_wp2_with fail
  refine (signed_ip w1 w3 false A3 c3 l3 (by omega) hc3 ho3 ht3).mono ?_
  rintro e w4 ⟨⟨n4, A4, c4, l4, rfl, hi4, hl4⟩, hb4⟩
  have hbx4 := (hbx.below hb3).below hb4
  have x0 := hbx4.cell0
  have x1 := hbx4.cell1
  have f0 := hbx4.free 0
  have f1 := hbx4.free 1
  obtain ⟨k0, k1, k2⟩ := hbx4.back (.bool n4) (.slice A4 l4.length c4)
  go_wp2_with fail
  refine bodyPost_ret (v := .tuple #[.agg #[.bool n4, .slice A4 l4.length c4], .int .i64 0]) (by simp [results, Tryz.results73, go_sem, k0, k2]) rfl ?_
  have hs := hw.size
  have hsb := hb.size
  rw [World.size_alloc, World.size_alloc] at hsb
  have h5 := (hi4.two (p := w.heap.size + 1) (by omega) (.bool n4) (.slice A4 l4.length c4)).mono (a := a) (by omega)
  refine ⟨r, n4, A4, c4, l4, HR.out, rfl, ?_, b2 (bt (bt (bt hw (bt (ba (ba (b0 _) _) _) hb)) hb3) hb4) (by omega) _ _⟩
  rw [show zI false l3 = ((val l3 : Nat) : Int) from rfl, HV3.out] at h5
  exact h5

/-- The root's steps at 99. -/
def Inv99 (e a : Nat) : Prop := (e = 0 ∧ a = 1) ∨ (e = 1 ∧ a = 2) ∨ (e = 3 ∧ a = 10)
theorem step99 : ∀ i a, 2 ^ i ≤ 3 → Inv99 (3 / 2 ^ (i + 1)) a → Inv99 (3 / 2 ^ i) (rootStep 99 3 (3 / 2 ^ (i + 1)) (3 / 2 ^ i) a) := by
  intro i a hi h
  match i, hi with
  | 0, _ =>
    rcases h with ⟨h1, rfl⟩ | ⟨_, rfl⟩ | ⟨h1, rfl⟩
    · simp at h1
    · right; right; exact ⟨by decide, by decide⟩
    · simp at h1
  | 1, _ =>
    rcases h with ⟨_, rfl⟩ | ⟨h1, rfl⟩ | ⟨h1, rfl⟩
    · right; left; exact ⟨by decide, by decide⟩
    · simp at h1
    · simp at h1
  | i + 2, hi =>
    have : 2 ^ (i + 2) = 4 * 2 ^ i := by rw [Nat.pow_add, Nat.mul_comm]
    have := Nat.two_pow_pos i
    omega
theorem pos99 : ∀ e a, Inv99 e a → 0 < a ∧ a < BB 2 := by
  intro e a h
  rcases h with ⟨_, rfl⟩ | ⟨_, rfl⟩ | ⟨_, rfl⟩ <;> decide
theorem Sqrt_99 (a w : World) (A : Option Addr) (c : Nat) (hl : WS w A [99]) (hw : Below a.heap.size a w) :
    Calls Tryz.prog 73 #[.agg #[.bool false, .slice A 1 c]] w fun e w' => ∃ n1 A1 c1 l1, e = .returned (.tuple #[.agg #[.bool n1, .slice A1 l1.length c1], .int .i64 0]) ∧ IP a w' n1 A1 c1 l1 9 ∧ Below a.heap.size a w' := by
  refine (Sqrt_walk a w A c [99] 3 Inv99 (by simp) (by decide) (by decide) (by decide) hl (.inl ⟨rfl, rfl⟩) step99 pos99 hw).mono ?_
  rintro e w' ⟨r, n1, A1, c1, l1, hr, rfl, hi, hb⟩
  refine ⟨n1, A1, c1, l1, rfl, ?_, hb⟩
  rcases hr with ⟨h1, _⟩ | ⟨h1, _⟩ | ⟨_, rfl⟩
  · simp at h1
  · simp at h1
  · simpa [val] using hi
end Go.Proofs.YtgljdfblgpdaaaaGreatDoor
