import Derived.Test.YtgljdfblgpdaaaaGreatDoorPbNumFin
set_option linter.unusedSimpArgs false
set_option linter.unusedVariables false
set_option maxRecDepth 100000
set_option maxHeartbeats 4000000
namespace Go.Proofs.YtgljdfblgpdaaaaGreatDoor
open Go.RowKit
open Go.RowKit
theorem Box2.only {W W' : World} {p g : Nat} {u v : Value} (h : Box2 W p u v) (hb : Only g W W') (hne : p ≠ g) : Box2 W' p u v := (hb.block p h.lt (fun e => hne (by injection e))).trans h
open Go.RowKit
abbrev bx (b : Bool) (A : Option Addr) (n c : Nat) : Obj := .cells #[.bool b, .slice A n c] 24
theorem signed_ip (a w : World) (neg : Bool) (A : Option Addr) (c : Nat) (l : List Nat) (hm : l.length ≤ 4000000) (hc : l.length ≤ c) (hl : OwnS a w A l) (ht : Top l) :
  Calls Tryz.prog 89 #[.bool neg, .slice A l.length c] w fun e w' => (∃ ng A3 c3 l3, e = .returned (.agg #[.bool ng, .slice A3 l3.length c3]) ∧ IP a w' ng A3 c3 l3 (zI neg l) ∧ l3.length ≤ l.length) ∧ Below w.heap.size w w' := by
 refine (signed_any neg A l.length c w hm).mono ?_
 rintro e w' ⟨rfl, hb⟩
 refine ⟨?_, hb⟩
 by_cases h0 : l.length = 0
 ·rw [if_pos h0]
  obtain rfl := List.eq_nil_of_length_eq_zero h0
  exact ⟨false, none, 0, [], rfl, by rw [zI_nil]; exact IP.zero _ _, Nat.le_refl _⟩
 ·rw [if_neg h0]
  exact ⟨neg, A, c, l, rfl, ⟨hc, hl.below hb, isB_of ht (fun h => absurd h h0), rfl⟩, Nat.le_refl _⟩
open Go.RowKit
theorem val_digits : ∀ (L : List Nat) (N : Nat), (∀ i, i < L.length → gd L i = N / BB i % 4294967296) → N < BB L.length → val L = N
 | [], N, _, h => by simp [BB] at h; simp [val, h]
 | x :: r, N, hd, h => by
  have h0 := hd 0 (by simp)
  simp [BB, gd] at h0
  have ih := val_digits r (N / 4294967296) (fun i hi => by
   have h1 := hd (i + 1) (by simp; omega)
   rw [Nat.div_div_eq_div_mul, Nat.mul_comm, ← BB_succ]
   simpa [gd] using h1) (by rw [List.length_cons, BB_succ] at h; exact Nat.div_lt_of_lt_mul (by rw [Nat.mul_comm]; exact h))
  simp only [val, ih, h0]
  omega
theorem gd_set {L : List Nat} {i j v : Nat} (hi : i < L.length) : gd (L.set i v) j = if i = j then v else gd L j := by
 unfold gd
 rw [List.getD_eq_getElem?_getD, List.getElem?_set, List.getD_eq_getElem?_getD]
 split
 ·rename_i h; subst h; simp [hi]
 ·rfl
theorem val_div_BB (l : List Nat) (hl : ∀ x ∈ l, x < 4294967296) (j : Nat) (hj : j ≤ l.length) : val l / BB j = val (l.drop j) := by
 rw [val_split l j hj, Nat.add_mul_div_left _ _ (BB_pos j)]
 have h := val_lt (words_take hl j)
 rw [List.length_take, Nat.min_eq_left hj] at h
 rw [Nat.div_eq_of_lt h, Nat.zero_add]
theorem BB_two (j : Nat) : BB j = 2 ^ (32 * j) := by unfold BB; rw [show (4294967296 : Nat) = 2 ^ 32 from rfl, ← Nat.pow_mul]
theorem shift_digit (l : List Nat) (hl : ∀ x ∈ l, x < 4294967296) (s k i : Nat) (hk : k < 32) (hi : s + i < l.length) :
  val l / 2 ^ (32 * s + k) / BB i % 4294967296 = (gd l (s + i) + 4294967296 * gd l (s + i + 1)) / 2 ^ k % 4294967296 := by
 have e1 : val l / 2 ^ (32 * s + k) / BB i = val l / BB (s + i) / 2 ^ k := by
  rw [Nat.div_div_eq_div_mul, Nat.div_div_eq_div_mul, BB_two, BB_two, ← Nat.pow_add, ← Nat.pow_add]
  congr 2; omega
 rw [e1, val_div_BB l hl _ (by omega), val_drop_at l hi]
 obtain ⟨r, hr⟩ : ∃ r, val (l.drop (s + i + 1)) = gd l (s + i + 1) + 4294967296 * r := by
  by_cases h : s + i + 1 < l.length
  ·exact ⟨_, val_drop_at l h⟩
  ·rw [List.drop_eq_nil_of_le (by omega), gd_end (by omega)]; exact ⟨0, rfl⟩
 rw [hr]
 generalize gd l (s + i) = x
 generalize gd l (s + i + 1) = y
 have e2 : x + 4294967296 * (y + 4294967296 * r) = (x + 4294967296 * y) + 2 ^ k * (4294967296 * (2 ^ (32 - k) * r)) := by
  have e3 : 2 ^ k * (4294967296 * (2 ^ (32 - k) * r)) = 4294967296 * ((2 ^ k * 2 ^ (32 - k)) * r) := by
   rw [Nat.mul_left_comm, ← Nat.mul_assoc (2 ^ k)]
  rw [e3, ← Nat.pow_add, show k + (32 - k) = 32 from by omega, Nat.mul_add, Nat.add_assoc]
 rw [e2, Nat.add_mul_div_left _ _ (Nat.two_pow_pos k), Nat.add_mul_mod_self_left]
theorem quiet_s {P : Program} {f : FuncId} {args : Array Value} {w : World} {n : Nat} {v : Value} (h : Calls P f args (w.drewN n) fun e w' => e = .returned v ∧ w.drewN n = w') :
  Calls P f args (w.drewN n) fun e w'' => e = .returned v ∧ ∃ m, w'' = w.drewN m := h.mono fun _ _ h => ⟨h.1, n, h.2.symm⟩
theorem md3397 {P : Prop} (h : P := by
 go_wp2_with fail
 go_ret
 exact ⟨none, 0, [], rfl, Nat.le_refl _, fun h => absurd rfl h, top_nil, rfl, hw⟩) : P := h
theorem shiftDown_any (a w : World) (A : Option Addr) (c : Nat) (l : List Nat) (x : Nat) (hm : l.length ≤ 2000000) (hx : x ≤ 100000000) (hl : WS w A l) (hw : Below a.heap.size a w) :
  Calls Tryz.prog 164 #[.slice A l.length c, .int .i64 (x : Int)] w (Res a (val l / 2 ^ x)) := by
 obtain ⟨s, hs⟩ : ∃ s, s = x / 32 := ⟨_, rfl⟩
 obtain ⟨k, hk⟩ : ∃ k, k = x % 32 := ⟨_, rfl⟩
 have hxk : x = 32 * s + k := by rw [hs, hk]; exact (Nat.div_add_mod x 32).symm
 have hk32 : k < 32 := by rw [hk]; exact Nat.mod_lt _ (by decide)
 have hq1 : (x : Int) / 32 = (s : Int) := by rw [hs]; simp
 have hq2 : (x : Int).tdiv 32 = (s : Int) := by rw [Int.tdiv_eq_ediv_of_nonneg (by omega)]; exact hq1
 have hr1 : (x : Int) % 32 = (k : Int) := by rw [hk]; simp
 have hr2 : (x : Int).tmod 32 = (k : Int) := by rw [Int.tmod_eq_emod_of_nonneg (by omega)]; exact hr1
 by_cases hsl : l.length ≤ s
 ·have hsi : (l.length : Int) ≤ (s : Int) := by omega
  have e0 : val l / 2 ^ x = 0 := Nat.div_eq_of_lt (Nat.lt_of_lt_of_le (val_lt hl.1) (by rw [BB_two]; exact Nat.pow_le_pow_right (by decide) (by omega)))
  rw [e0]
  clear hs hk hxk e0
  go_enter Tryz.func164, Tryz.ntmps164
  exact md3397
 ·have hsi : ¬ (l.length : Int) ≤ (s : Int) := by omega
  obtain ⟨m, hmm⟩ : ∃ m, m = l.length - s := ⟨_, rfl⟩
  have hmi : (l.length : Int) - (s : Int) = (m : Int) := by omega
  have hmk := fun W => run_mk (m : Int) m rfl (by omega) W
  have hsd := fun i (h : s + i < l.length) => shift_digit l hl.1 s k i hk32 h
  rw [← hxk] at hsd
  have HSD := Hi hsd
  have HMM := Hi hmm
  have HXK := Hi hxk
  clear hs hk hxk hsd hmm
  go_enter Tryz.func164, Tryz.ntmps164
  go_wp2_with fail
  obtain ⟨W1, hW1⟩ : ∃ W, W = w.alloc (.cells (words (zer m)) 83) := ⟨_, rfl⟩
  have hb1 : Blk W1 w.heap.size (zer m) := by rw [hW1]; exact Blk.new w (zer m) (zer_lt _)
  have hw1 : Below w.heap.size w W1 := by rw [hW1]; exact ba (b0 _) _
  have ho := hl.off (Nat.le_refl w.heap.size)
  have hl1 := hl.below hw1
  rw [← hW1]
  clear hW1 hmk
  go_loopw [25] (fun iv wr => ∃ (j : Nat) (L : List Nat), iv = .int .i64 (j : Int) ∧ j ≤ m ∧ L.length = m ∧ Blk wr w.heap.size L ∧ Hid (∀ i, i < j → gd L i = val l / 2 ^ x / BB i % 4294967296) ∧ Only w.heap.size W1 wr) (fun iv _ => m - (intOf iv).toNat)
  case atStart => exact ⟨0, zer m, rfl, Nat.zero_le _, zer_length _, hb1, fun i hi => absurd hi (by omega), only_refl _ _⟩
  case round =>
   obtain ⟨j, L, rfl, hj, hL, hb, hd, hO⟩ := hrel
   have HL := Hi hL
   clear hL
   by_cases hlt : j < m
   ·have hlti : (j : Int) < (m : Int) := by omega
    obtain ⟨p, hpn⟩ : ∃ p, p = s + j := ⟨_, rfl⟩
    have hpl : p < l.length := by have := HMM.out; omega
    have hp : (s : Int) + (j : Int) = (p : Int) := by omega
    have hwp : IntKind.i64.wrap (p : Int) = (p : Int) := IntWalk.i64_in _ ⟨by omega, by omega⟩
    have hwp1 : IntKind.i64.wrap ((p : Int) + 1) = (p : Int) + 1 := IntWalk.i64_in _ ⟨by omega, by omega⟩
    have hlr := hl1.only hO ho
    have hwa := fun W h => wordAt_any A l.length c ((p : Int) + 1) l W rfl (by omega) (by omega) (by omega) h
    rw [show ((p : Int) + 1).toNat = p + 1 from by omega] at hwa
    obtain ⟨b, off, rfl, hblt, hc⟩ := hlr.at_ (by omega)
    have hc1 := hc p hpl
    have hX := hl.lt p
    have hY := hl.lt (p + 1)
    have hdig := HSD.out j (by omega)
    rw [← hpn] at hdig
    have hor := or64 (gd l p) (gd l (p + 1)) hX hY
    obtain ⟨X, hXe⟩ : ∃ X, X = gd l p := ⟨_, rfl⟩
    obtain ⟨Y, hYe⟩ : ∃ Y, Y = gd l (p + 1) := ⟨_, rfl⟩
    rw [← hXe] at hc1 hX hor hdig
    rw [← hYe] at hwa hY hor hdig
    obtain ⟨T, hT⟩ : ∃ T, T = X + 4294967296 * Y := ⟨_, rfl⟩
    have hTl : T < 18446744073709551616 := by omega
    rw [← hT] at hor hdig
    obtain ⟨Q, hQ⟩ : ∃ Q, Q = T / 2 ^ k := ⟨_, rfl⟩
    have hQi : (T : Int) / 2 ^ k = (Q : Int) := by rw [hQ]; simp
    have hQl : Q ≤ T := by rw [hQ]; exact Nat.div_le_self _ _
    rw [← hQ] at hdig
    have hc2 := hb.cell (i := j) (by rw [HL.out]; exact hlt)
    have hf2 := hb.free j
    have HWA := Hi hwa
    have HDG := Hi hdig
    have hwsr := hlr
    have hpi : (p : Int) < (l.length : Int) := by omega
    have hp0 : (0 : Int) ≤ (p : Int) := by omega
    clear hwa hdig hXe hYe hT hQ hc hpn
    go_wp2_with fail
    go_quiet ((go_at_call 168; with_reducible exact quiet_s (HWA.out _ (hwsr.below (bd (b0 _) _)))))
    go_wp2_with fail
    go_roundw
    case rel =>
     have hset := (hb.draw nq).set_ (i := j) (x := Q % 4294967296) (Nat.mod_lt _ (by decide))
     refine ⟨j + 1, L.set j (Q % 4294967296), by go_num, by omega, by rw [List.length_set]; exact HL.out, by simpa using hset, fun i hi => ?_, (hO.draw _).set_ (.inl rfl) _⟩
     rw [gd_set (by rw [HL.out]; exact hlt)]
     split
     ·rename_i h; subst h; exact HDG.out.symm
     ·exact hd.out i (by omega)
    case measure => simp [intOf]; omega
   ·have he : j = m := by omega
    have hnlt : ¬ (j : Int) < (m : Int) := by omega
    subst he
    go_wp2_with fail
    have hv : val (L.take j) = val l / 2 ^ x := by
     rw [List.take_of_length_le (Nat.le_of_eq HL.out)]
     refine val_digits L _ (fun i hi => hd.out i (by rw [← HL.out]; exact hi)) ?_
     rw [HL.out]
     have h1 := val_lt hl.1
     rw [show l.length = j + s from by have := HMM.out; omega, BB_add] at h1
     refine Nat.lt_of_le_of_lt (Nat.div_le_div_left (Nat.pow_le_pow_right (by decide) (show 32 * s ≤ x by have := HXK.out; omega)) (Nat.two_pow_pos _)) ?_
     rw [← BB_two]
     exact Nat.div_lt_of_lt_mul (by rw [Nat.mul_comm]; exact h1)
    refine (trim_own a _ w.heap.size j j L (val l / 2 ^ x) (by have := HMM.out; omega) (Nat.le_refl _) hw.size hb (Nat.le_of_eq HL.out.symm) hv (bo (bt hw hw1) hO hw.size)).mono ?_
    rintro e w1 h
    obtain ⟨A1, c1, l1, rfl, hR⟩ := h
    go_wp2_with fail
    go_ret
    exact ⟨A1, c1, l1, rfl, hR⟩
open Go.RowKit
theorem set_mid2 (P S : List Nat) (c v : Nat) (R : List Nat) : (P ++ (S ++ (c :: R))).set (P.length + S.length) v = P ++ (S ++ (v :: R)) := by
 rw [List.set_append_right _ _ (by omega), show P.length + S.length - P.length = S.length from by omega, List.set_append_right _ _ (by omega), Nat.sub_self]
 rfl
theorem gd_mid (P S : List Nat) (c : Nat) (R : List Nat) : gd (P ++ (S ++ (c :: R))) (P.length + S.length) = c := by
 unfold gd
 simp [List.getD_eq_getElem?_getD, List.getElem?_append_right]
theorem or_shift (x k c : Nat) (hk : k < 32) (hx : x < 4294967296) (hc : c < 2 ^ k) : bits BinOp.or IntKind.u32 (c : Int) ((x * 2 ^ k % 4294967296 : Nat) : Int) = ((c + x * 2 ^ k % 4294967296 : Nat) : Int) ∧ c + x * 2 ^ k % 4294967296 < 4294967296 := by
 have e32 : (4294967296 : Nat) = 2 ^ (32 - k) * 2 ^ k := by rw [← Nat.pow_add, show 32 - k + k = 32 from by omega]
 have e1 : x * 2 ^ k % 4294967296 = (x % 2 ^ (32 - k)) * 2 ^ k := by rw [e32, Nat.mul_mod_mul_right]
 have hy : x % 2 ^ (32 - k) < 2 ^ (32 - k) := Nat.mod_lt _ (Nat.two_pow_pos _)
 have hle : (x % 2 ^ (32 - k) + 1) * 2 ^ k ≤ 4294967296 := by rw [e32]; exact Nat.mul_le_mul_right _ hy
 rw [Nat.add_mul, Nat.one_mul] at hle
 rw [e1]
 have hcl : c < 4294967296 := Nat.lt_of_lt_of_le hc (by omega)
 refine ⟨?_, by omega⟩
 rw [u32_or_nat c _ hcl (by omega)]
 congr 1
 have h2 := Nat.shiftLeft_add_eq_or_of_lt (i := k) (b := c) hc (x % 2 ^ (32 - k))
 rw [Nat.shiftLeft_eq] at h2
 rw [Nat.or_comm, ← h2, Nat.add_comm]
theorem m5c9b2 {P : Prop} (h : P := by
 rw [val_snoc, HS.out, H1.out, BB_succ, HV.out, HU.out, Nat.add_mul, ← hv.out, Nat.mul_add, Nat.mul_assoc (BB i) 4294967296, Nat.add_assoc, Nat.add_assoc, ← Nat.mul_add, ← Nat.mul_add, Nat.mod_add_div, HT.out, Nat.mul_assoc, Nat.add_assoc, Nat.mul_add]) : P := h
theorem md3f3b {P : Prop} (h : P := by
 have h1 : 2 ^ k ≤ 2 ^ 31 := Nat.pow_le_pow_right (by decide) (by omega)
 have h2 := Nat.mul_le_mul (Nat.le_of_lt_succ hx) h1
 rw [hT]; omega) : P := h
theorem shiftInto_any (w : World) (g m d : Nat) (P : List Nat) (A : Option Addr) (c : Nat) (l : List Nat) (k : Nat) (hk : k < 32) (hm : l.length + 1 ≤ m) (hm2 : l.length ≤ 2000000) (hP : P.length ≤ 4000000) (hg : Blk w g (P ++ ([] ++ (0 :: zer l.length)))) (hl : WS w A l) (ho : Off A l g) :
  Calls Tryz.prog 173 #[.slice (some ⟨g, P.length, none⟩) m d, .slice A l.length c, .int .i64 (k : Int)] w fun e w' => e = .returned (.tuple #[]) ∧ ∃ (S : List Nat) (r : Nat), S.length = l.length ∧ val S + BB l.length * r = val l * 2 ^ k ∧ Blk w' g (P ++ (S ++ [r])) ∧ Only g w w' := by
 go_enter Tryz.func173, Tryz.ntmps173
 go_wp2_with fail
 go_loopw [11] (fun iv wr => ∃ (i : Nat) (S : List Nat) (r : Nat), iv = .int .i64 (i : Int) ∧ i ≤ l.length ∧ S.length = i ∧ r < 2 ^ k ∧ Hid (val S + BB i * r = val (l.take i) * 2 ^ k) ∧ Blk wr g (P ++ (S ++ (r :: zer (l.length - i)))) ∧ Only g w wr) (fun iv _ => l.length - (intOf iv).toNat)
 case atStart => exact ⟨0, [], 0, rfl, Nat.zero_le _, rfl, Nat.two_pow_pos k, by show _ = _; simp [val], hg, only_refl _ _⟩
 case round =>
  obtain ⟨i, S, r, rfl, hi, hS, hr, hv, hb, hO⟩ := hrel
  have HS := Hi hS
  clear hS
  by_cases hlt : i < l.length
  ·have hlti : (i : Int) < (l.length : Int) := by omega
   obtain ⟨b, off, rfl, hblt, hc⟩ := (hl.only hO ho).at_ (by omega)
   have hc1 := hc i hlt
   have hx := hl.lt i
   have H1 := Hi (val_take l hlt)
   generalize gd l i = x at *
   obtain ⟨T, hT⟩ : ∃ T, T = x * 2 ^ k := ⟨_, rfl⟩
   have hTl : T < 9223372036854775808 := by
    exact md3f3b
   have hTi : (x : Int) * 2 ^ k = (T : Int) := by rw [hT]; simp
   obtain ⟨hor, horl⟩ := or_shift x k r hk hx hr
   rw [← hT] at hor horl
   obtain ⟨V, hV⟩ : ∃ V, V = r + T % 4294967296 := ⟨_, rfl⟩
   obtain ⟨U, hU⟩ : ∃ U, U = T / 4294967296 := ⟨_, rfl⟩
   have hUi : (T : Int) / 4294967296 = (U : Int) := by rw [hU]; simp
   have hUl : U < 4294967296 := by omega
   rw [← hV, show ((T % 4294967296 : Nat) : Int) = (T : Int) % 4294967296 from by simp] at hor
   rw [← hV] at horl
   have HV := Hi hV
   have HU := Hi hU
   have hrl : r < 4294967296 := by omega
   have HT := Hi hT
   have hLlen : (P ++ (S ++ (r :: zer (l.length - i)))).length = P.length + l.length + 1 := by simp [HS.out, zer_length]; omega
   have hc2 := hb.cell (i := P.length + i) (by rw [hLlen]; omega)
   rw [show gd (P ++ (S ++ (r :: zer (l.length - i)))) (P.length + i) = r from by rw [← HS.out]; exact gd_mid _ _ _ _] at hc2
   have hf2 := hb.free (P.length + i)
   have hnext := (hb.set_ (i := P.length + i) horl)
   have hc3 := hnext.cell (i := P.length + i + 1) (by rw [List.length_set, hLlen]; omega)
   have hf3 := hnext.free (P.length + i + 1)
   rw [Nat.add_assoc] at hc3 hf3
   clear hc hT hLlen hV hU
   go_wp2_with fail
   go_roundw
   case rel =>
    have hfin := hnext.set_ (i := P.length + (i + 1)) hUl
    have eL : ((P ++ (S ++ (r :: zer (l.length - i)))).set (P.length + i) V).set (P.length + (i + 1)) U = P ++ ((S ++ [V]) ++ (U :: zer (l.length - (i + 1)))) := by
     have e1 := set_mid2 P S r V (zer (l.length - i))
     rw [HS.out] at e1
     rw [e1, show l.length - i = (l.length - (i + 1)) + 1 from by omega]
     have e2 := set_mid2 P (S ++ [V]) 0 U (zer (l.length - (i + 1)))
     rw [List.length_append, HS.out] at e2
     rw [show P ++ (S ++ V :: zer (l.length - (i + 1) + 1)) = P ++ (S ++ [V] ++ 0 :: zer (l.length - (i + 1))) from by simp [zer, List.replicate_succ]]
     exact e2
    rw [eL] at hfin
    have hU2 : U < 2 ^ k := by
     rw [HU.out, HT.out]
     exact Nat.div_lt_of_lt_mul (by exact Nat.mul_lt_mul_of_pos_right hx (Nat.two_pow_pos k))
    refine ⟨i + 1, S ++ [V], U, by go_num, by omega, by simp [HS.out], hU2, ?_, hfin, (hO.set_ (.inl rfl) _).set_ (.inl rfl) _⟩
    show _ = _
    exact m5c9b2
   case measure => simp [intOf]; omega
  ·have he : i = l.length := by omega
   have hnlt : ¬ (i : Int) < (l.length : Int) := by omega
   subst he
   go_wp2_with fail
   go_end0
   refine ⟨rfl, S, HS.out, r, ?_, ?_, hO⟩
   ·have := hv.out; rwa [List.take_length] at this
   ·rw [Nat.sub_self] at hb; exact hb
theorem val_zer_app (n : Nat) (l : List Nat) : val (zer n ++ l) = BB n * val l := by rw [val_append, val_zer, zer_length, Nat.zero_add]
theorem shiftUp_any (a w : World) (A : Option Addr) (c : Nat) (l : List Nat) (x : Nat) (hm : l.length ≤ 1000000) (hx : x ≤ 30000000) (hl : WS w A l) (hw : Below a.heap.size a w) :
  Calls Tryz.prog 165 #[.slice A l.length c, .int .i64 (x : Int)] w (Res a (val l * 2 ^ x)) := by
 obtain ⟨s, hs⟩ : ∃ s, s = x / 32 := ⟨_, rfl⟩
 obtain ⟨k, hk⟩ : ∃ k, k = x % 32 := ⟨_, rfl⟩
 have hxk : x = 32 * s + k := by rw [hs, hk]; exact (Nat.div_add_mod x 32).symm
 have hk32 : k < 32 := by rw [hk]; exact Nat.mod_lt _ (by decide)
 have hq1 : (x : Int) / 32 = (s : Int) := by rw [hs]; simp
 have hq2 : (x : Int).tdiv 32 = (s : Int) := by rw [Int.tdiv_eq_ediv_of_nonneg (by omega)]; exact hq1
 have hr1 : (x : Int) % 32 = (k : Int) := by rw [hk]; simp
 have hr2 : (x : Int).tmod 32 = (k : Int) := by rw [Int.tmod_eq_emod_of_nonneg (by omega)]; exact hr1
 by_cases h0 : l.length = 0
 ·have hz : ((l.length : Int) == 0) = true := by simp; exact List.eq_nil_of_length_eq_zero h0
  have e0 : val l * 2 ^ x = 0 := by rw [List.eq_nil_of_length_eq_zero h0]; simp [val]
  rw [e0]
  clear hs hk hxk h0 e0
  go_enter Tryz.func165, Tryz.ntmps165
  exact md3397
 ·have hz : ((l.length : Int) == 0) = false := beq_eq_false_iff_ne.2 (by omega)
  obtain ⟨m, hmm⟩ : ∃ m, m = s + l.length + 1 := ⟨_, rfl⟩
  have hmi : (s : Int) + (l.length : Int) + 1 = (m : Int) := by omega
  have hmk := fun W => run_mk (m : Int) m rfl (by omega) W
  have HMM := Hi hmm
  have HXK := Hi hxk
  have hsm : (s : Int) ≤ (m : Int) := by omega
  have hms : (m : Int) - (s : Int) = ((l.length + 1 : Nat) : Int) := by omega
  clear hs hk hxk hmm
  go_enter Tryz.func165, Tryz.ntmps165
  go_wp2_with fail
  obtain ⟨W1, hW1⟩ : ∃ W, W = w.alloc (.cells (words (zer m)) 83) := ⟨_, rfl⟩
  have ez : zer m = zer s ++ ([] ++ (0 :: zer l.length)) := by
   rw [HMM.out]
   unfold zer
   rw [List.nil_append, ← List.replicate_succ, List.replicate_append_replicate]
   congr 1
  have hb1 : Blk W1 w.heap.size (zer s ++ ([] ++ (0 :: zer l.length))) := by rw [hW1, ← ez]; exact Blk.new w (zer m) (zer_lt _)
  have hw1 : Below w.heap.size w W1 := by rw [hW1]; exact ba (b0 _) _
  rw [← hW1]
  clear hW1 ez
  have hsi := shiftInto_any W1 w.heap.size (m - s) (m - s) (zer s) A c l k hk32 (by have := HMM.out; omega) (by omega) (by rw [zer_length]; omega) hb1 (hl.below hw1) (hl.off (Nat.le_refl _))
  rw [zer_length] at hsi
  refine hsi.mono ?_
  rintro e w2 ⟨rfl, S, r, hS, hv, hb2, hO⟩
  have hlen : (zer s ++ (S ++ [r])).length = m := by simp [zer_length, hS]; have := HMM.out; omega
  have hval : val ((zer s ++ (S ++ [r])).take m) = val l * 2 ^ x := by
   rw [List.take_of_length_le (Nat.le_of_eq hlen), val_zer_app, val_snoc, hS, hv, HXK.out, Nat.pow_add, ← BB_two, Nat.mul_left_comm]
  have HVL := Hi hval
  clear hv hval
  go_wp2_with fail
  refine (trim_own a w2 w.heap.size m m _ (val l * 2 ^ x) (by have := HMM.out; omega) (Nat.le_refl _) hw.size hb2 (Nat.le_of_eq hlen.symm) HVL.out (bo (bt hw hw1) hO hw.size)).mono ?_
  rintro e w3 h
  obtain ⟨A1, c1, l1, rfl, hR⟩ := h
  go_wp2_with fail
  go_ret
  exact ⟨A1, c1, l1, rfl, hR⟩
open Go.RowKit
theorem bitLenAux_gt : ∀ (f x : Nat), x < 2 ^ f → x < 2 ^ Lib.bitLenAux f x
 | 0, x, h => h
 | f + 1, x, h => by
  unfold Lib.bitLenAux
  split
  ·rename_i h0; subst h0; decide
  ·have h1 := bitLenAux_gt f (x / 2) (by rw [Nat.pow_succ] at h; omega)
   rw [Nat.pow_add, Nat.pow_one]
   omega
theorem bitLen_spec (n : Nat) (h : n < 2 ^ 64) : n < 2 ^ Lib.bitLen n := bitLenAux_gt 64 n h
theorem i64_and1 (n : Int) : bits .and .i64 n 1 = n % 2 := by
 have h1 : (BitVec.ofInt 64 1).toNat = 2 ^ 1 - 1 := by decide
 have key : (BitVec.ofInt 64 n &&& BitVec.ofInt 64 1).toNat = (n % ((2 ^ 64 : Nat) : Int)).toNat % 2 ^ 1 := by
  rw [BitVec.toNat_and, BitVec.toNat_ofInt, h1, Nat.and_two_pow_sub_one_eq_mod]
 show IntKind.i64.wrap ((BitVec.ofInt 64 n &&& BitVec.ofInt 64 1).toNat : Nat) = n % 2
 rw [key, IntKind.wrap_i64]
 omega
theorem and1_div (n i q : Nat) (hq : q = n / 2 ^ i) : bits .and .i64 ((n : Int) / 2 ^ i) 1 = ((q % 2 : Nat) : Int) := by
 have e : (n : Int) / 2 ^ i = ((q : Nat) : Int) := by rw [hq]; simp
 rw [e, i64_and1]; simp
open Go.RowKit
theorem zI_pow (neg : Bool) (l k : List Nat) (n : Nat) (h : val k = val l ^ n) : zI (neg && decide (n % 2 = 1)) k = zI neg l ^ n := by
 have hs : ∀ m : Nat, ((-(val l : Int)) ^ m) = if m % 2 = 1 then -((val l : Int) ^ m) else (val l : Int) ^ m := by
  intro m
  induction m with
  | zero => simp
  | succ m ih =>
   rw [Int.pow_succ, ih, Int.pow_succ]
   rcases Nat.mod_two_eq_zero_or_one m with hm | hm
   ·rw [if_neg (by omega), if_pos (by omega), Int.mul_neg]
   ·rw [if_pos hm, if_neg (by omega), Int.neg_mul_neg]
 unfold zI
 cases neg
 ·simp [h]
 ·simp only [Bool.true_and, decide_eq_true_eq, if_true]
  rw [hs n, h]
  simp
open Go.RowKit
open Go.RowKit
end Go.Proofs.YtgljdfblgpdaaaaGreatDoor
