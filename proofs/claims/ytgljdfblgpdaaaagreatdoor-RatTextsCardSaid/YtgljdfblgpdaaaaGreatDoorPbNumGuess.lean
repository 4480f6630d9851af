import Derived.Test.YtgljdfblgpdaaaaGreatDoorPbNumTsM
set_option linter.unusedSimpArgs false
set_option linter.unusedVariables false
set_option maxRecDepth 100000
set_option maxHeartbeats 4000000
namespace Go.Proofs.YtgljdfblgpdaaaaGreatDoor
open Go.RowKit
variable {odd : Bool} {p q u v x x0 y y0 : Nat}
theorem bits_at (l : List Nat) (hl : ∀ x ∈ l, x < 4294967296) (i k : Nat) (hk : k < 32) :
  val l / 2 ^ (32 * i + k) % 18446744073709551616 = (gd l i + 4294967296 * gd l (i + 1)) / 2 ^ k + (gd l (i + 2) % 2 ^ k) * 2 ^ (64 - k) := by
 have e1 : val l / 2 ^ (32 * i + k) = val l / BB i / 2 ^ k := by rw [Nat.div_div_eq_div_mul, BB_two, ← Nat.pow_add]
 obtain ⟨r, hr⟩ : ∃ r, val l / BB i = gd l i + 4294967296 * gd l (i + 1) + 18446744073709551616 * (gd l (i + 2) + 4294967296 * r) := by
  rcases Nat.lt_or_ge i l.length with h | h
  ·rw [val_div_BB l hl _ (by omega), val_drop_at l h]
   by_cases h1 : i + 1 < l.length
   ·rw [val_drop_at l h1]
    by_cases h2 : i + 2 < l.length
    ·rw [show i + 1 + 1 = i + 2 from rfl, val_drop_at l h2]; exact ⟨val (l.drop (i + 2 + 1)), by omega⟩
    ·rw [List.drop_eq_nil_of_le (by omega), gd_end (show l.length ≤ i + 2 by omega)]; exact ⟨0, by simp [val]⟩
   ·rw [List.drop_eq_nil_of_le (by omega), gd_end (show l.length ≤ i + 1 by omega), gd_end (show l.length ≤ i + 2 by omega)]; exact ⟨0, by simp [val]⟩
  ·rw [Nat.div_eq_of_lt (Nat.lt_of_lt_of_le (val_lt hl) (BB_mono h)), gd_end h, gd_end (show l.length ≤ i + 1 by omega), gd_end (show l.length ≤ i + 2 by omega)]
   exact ⟨0, by simp⟩
 have hx := getD_lt hl i
 have hy := getD_lt hl (i + 1)
 rw [e1, hr]
 generalize gd l i = x at *
 generalize gd l (i + 1) = y at *
 generalize gd l (i + 2) = z at *
 obtain ⟨T, hT⟩ : ∃ T, T = x + 4294967296 * y := ⟨_, rfl⟩
 rw [← hT]
 have hTl : T < 18446744073709551616 := by omega
 have e64 : (18446744073709551616 : Nat) = 2 ^ k * 2 ^ (64 - k) := by rw [← Nat.pow_add, show k + (64 - k) = 64 by omega]
 have e2 : T + 18446744073709551616 * (z + 4294967296 * r) = T + 2 ^ k * (2 ^ (64 - k) * (z + 4294967296 * r)) := by rw [← Nat.mul_assoc, ← e64]
 rw [e2, Nat.add_mul_div_left _ _ (Nat.two_pow_pos k)]
 have e3 : 4294967296 * r = 2 ^ k * (2 ^ (32 - k) * r) := by
  rw [← Nat.mul_assoc, ← Nat.pow_add, show k + (32 - k) = 32 by omega]
 have e4 : z + 4294967296 * r = z % 2 ^ k + 2 ^ k * (z / 2 ^ k + 2 ^ (32 - k) * r) := by
  rw [e3, Nat.mul_add]
  have := Nat.mod_add_div z (2 ^ k)
  omega
 rw [e4, Nat.mul_add, ← Nat.mul_assoc (2 ^ (64 - k)), Nat.mul_comm (2 ^ (64 - k)) (2 ^ k), ← e64, ← Nat.add_assoc, Nat.add_mul_mod_self_left, Nat.mul_comm (2 ^ (64 - k))]
 refine Nat.mod_eq_of_lt ?_
 have h1 : T / 2 ^ k < 2 ^ (64 - k) := Nat.div_lt_of_lt_mul (by rw [← e64]; exact hTl)
 have h2 : (z % 2 ^ k + 1) * 2 ^ (64 - k) ≤ 2 ^ k * 2 ^ (64 - k) := Nat.mul_le_mul_right _ (Nat.mod_lt _ (Nat.two_pow_pos k))
 rw [← e64, Nat.add_mul, Nat.one_mul] at h2
 omega
theorem or_high (x z k : Nat) (hk : k < 32) (hx : x < 18446744073709551616) : bits BinOp.or IntKind.u64 ((x / 2 ^ k : Nat) : Int) ((z % 2 ^ k * 2 ^ (64 - k) : Nat) : Int) = ((x / 2 ^ k + z % 2 ^ k * 2 ^ (64 - k) : Nat) : Int) := by
 have e64 : (18446744073709551616 : Nat) = 2 ^ k * 2 ^ (64 - k) := by rw [← Nat.pow_add, show k + (64 - k) = 64 by omega]
 have h1 : x / 2 ^ k < 2 ^ (64 - k) := Nat.div_lt_of_lt_mul (by rw [← e64]; exact hx)
 have h2 : (z % 2 ^ k + 1) * 2 ^ (64 - k) ≤ 2 ^ k * 2 ^ (64 - k) := Nat.mul_le_mul_right _ (Nat.mod_lt _ (Nat.two_pow_pos k))
 rw [← e64, Nat.add_mul, Nat.one_mul] at h2
 have h3 := Nat.two_pow_pos (64 - k)
 rw [u64_or_nat _ _ (by omega) (by omega)]
 congr 1
 have h4 := Nat.shiftLeft_add_eq_or_of_lt (i := 64 - k) (b := x / 2 ^ k) h1 (z % 2 ^ k)
 rw [Nat.shiftLeft_eq] at h4
 rw [Nat.or_comm, ← h4, Nat.add_comm]
theorem u64_shl (z k : Nat) (hk : k < 32) : IntKind.u64.wrap ((z : Int) * 2 ^ (64 - k)) = ((z % 2 ^ k * 2 ^ (64 - k) : Nat) : Int) := by
 have e64 : (18446744073709551616 : Nat) = 2 ^ k * 2 ^ (64 - k) := by rw [← Nat.pow_add, show k + (64 - k) = 64 by omega]
 have h1 : z % 2 ^ k * 2 ^ (64 - k) = z * 2 ^ (64 - k) % 18446744073709551616 := by rw [e64, Nat.mul_mod_mul_right]
 rw [h1]
 simp [IntKind.wrap, IntKind.signed, IntKind.bits]
theorem bitsAt_in (A : Option Addr) (c : Nat) (l : List Nat) (i k n : Nat) (w : World) (hn : n = 32 * i + k) (hk : k < 32) (hi : i < l.length) (hlc : l.length ≤ c) (hm : l.length ≤ 1000000) (hl : WS w A l) :
  Calls Tryz.prog 192 #[.slice A l.length c, .int .i64 (n : Int)] w fun e w' => e = .returned (.int .u64 ((val l / 2 ^ n % 18446744073709551616 : Nat) : Int)) ∧ ∃ d, w' = w.drewN d := by
 have hq1 : (n : Int) / 32 = (i : Int) := by omega
 have hq2 : (n : Int).tdiv 32 = (i : Int) := by rw [Int.tdiv_eq_ediv_of_nonneg (by omega)]; exact hq1
 have hr1 : (n : Int) % 32 = (k : Int) := by omega
 have hr2 : (n : Int).tmod 32 = (k : Int) := by rw [Int.tmod_eq_emod_of_nonneg (by omega)]; exact hr1
 have hval := bits_at l hl.1 i k hk
 rw [← hn] at hval
 rw [hval]
 have hx := hl.lt i
 have hy := hl.lt (i + 1)
 have hz := hl.lt (i + 2)
 have hl' := hl
 obtain ⟨b, off, rfl, hb, hc⟩ := hl.at_ (by omega)
 have hdw : WS w (some ⟨b, off + i, none⟩) (l.drop i) := ⟨fun x hx => hl.1 x (List.mem_of_mem_drop hx), fun _ => ⟨b, off + i, rfl, hb, fun j hj => by
  rw [gd_drop, Nat.add_assoc]; exact hc (i + j) (by simp at hj; omega)⟩⟩
 have hsg := single_any (some ⟨b, off + i, none⟩) (l.length - i) (c - i) (l.drop i) w (by simp) (by omega) hdw
 rw [gd_drop, gd_drop, Nat.add_zero] at hsg
 have hwa := fun W h => wordAt_any (some ⟨b, off, none⟩) l.length c ((i : Int) + 2) l W rfl (by omega) (by omega) (by omega) h
 rw [show ((i : Int) + 2).toNat = i + 2 by omega] at hwa
 have hor := fun x hx => or_high x (gd l (i + 2)) k hk hx
 obtain ⟨T, hT⟩ : ∃ T, T = gd l i + 4294967296 * gd l (i + 1) := ⟨_, rfl⟩
 have hTl : T < 18446744073709551616 := by omega
 rw [← hT] at hsg ⊢
 have hor' := hor T hTl
 obtain ⟨Z, hZ⟩ : ∃ Z, Z = gd l (i + 2) := ⟨_, rfl⟩
 rw [← hZ] at hwa hz hor' ⊢
 obtain ⟨U, hU⟩ : ∃ U, U = T / 2 ^ k := ⟨_, rfl⟩
 obtain ⟨V, hV⟩ : ∃ V, V = Z % 2 ^ k * 2 ^ (64 - k) := ⟨_, rfl⟩
 rw [← hU, ← hV] at hor' ⊢
 obtain ⟨m, hm64⟩ : ∃ m, m = 64 - k := ⟨_, rfl⟩
 have hmi : (64 : Int) - (k : Int) = (m : Int) := by omega
 have hUi : (T : Int) / 2 ^ k = (U : Int) := by rw [hU]; simp
 have hmn : min (i : Int) (l.length : Int) = (i : Int) := by omega
 have hin : IntKind.i64.wrap ((i : Int) + 2) = (i : Int) + 2 := IntWalk.i64_in _ ⟨by omega, by omega⟩
 have hwv : IntKind.u64.wrap ((Z : Int) * 2 ^ m) = (V : Int) := by
  rw [hV, hm64]; exact u64_shl Z k hk
 have hi1 : (i : Int) ≤ (l.length : Int) := by omega
 have HSG := Hi hsg
 have HWA := Hi hwa
 have HM := Hi hm64
 have HV := Hi hV
 have hwsr := hl'
 clear hsg hwa hor hT hZ hU hc hdw hl hx hy hval hn hm64 hV
 go_enter Tryz.func192, Tryz.ntmps192
 go_wp2_with fail
 refine HSG.out.mono ?_
 rintro e w1 ⟨rfl, rfl⟩
 go_wp2_with fail
 go_quiet ((go_at_call 168; with_reducible exact quiet_s (HWA.out _ (hwsr.below (bd (b0 _) _)))))
 go_wp2_with fail
 go_ret
 exact ⟨ret_int (by simp), nq, rfl⟩
theorem mc03c0 {P : Prop} (h : P := by
 go_enter Tryz.func192, Tryz.ntmps192
 go_wp2_with fail
 refine (HSG.out _ _).mono ?_
 rintro e w1 ⟨rfl, rfl⟩
 go_wp2_with fail
 go_quiet ((go_at_call 168; with_reducible exact quiet_s (HWA.out _ (hwsr.below (bd (b0 _) _)))))
 go_wp2_with fail
 go_ret
 refine ⟨ret_int ?_, nq, rfl⟩
 first | exact hor | exact hor2 | simpa using hor) : P := h
theorem bitsAt_out (A : Option Addr) (c : Nat) (l : List Nat) (i k n : Nat) (w : World) (hn : n = 32 * i + k) (hk : k < 32) (hi : l.length ≤ i) (hi2 : i ≤ 1000000) (h0 : 0 < l.length) (hlc : l.length ≤ c) (hm : l.length ≤ 1000000) (hl : WS w A l) :
  Calls Tryz.prog 192 #[.slice A l.length c, .int .i64 (n : Int)] w fun e w' => e = .returned (.int .u64 ((val l / 2 ^ n % 18446744073709551616 : Nat) : Int)) ∧ ∃ d, w' = w.drewN d := by
 have hq1 : (n : Int) / 32 = (i : Int) := by omega
 have hq2 : (n : Int).tdiv 32 = (i : Int) := by rw [Int.tdiv_eq_ediv_of_nonneg (by omega)]; exact hq1
 have hr1 : (n : Int) % 32 = (k : Int) := by omega
 have hr2 : (n : Int).tmod 32 = (k : Int) := by rw [Int.tmod_eq_emod_of_nonneg (by omega)]; exact hr1
 have hval : val l / 2 ^ n % 18446744073709551616 = 0 := by
  rw [hn, bits_at l hl.1 i k hk, gd_end hi, gd_end (show l.length ≤ i + 1 by omega), gd_end (show l.length ≤ i + 2 by omega)]; simp
 rw [hval]
 obtain ⟨b, off, rfl, hb, hc⟩ := hl.at_ h0
 have hsg := fun A' c' => single_any A' 0 c' [] w rfl (by omega) (WS.nil_ _ _)
 rw [show gd [] 0 + 4294967296 * gd [] 1 = 0 from rfl] at hsg
 have hwa := fun W h => wordAt_any (some ⟨b, off, none⟩) l.length c ((i : Int) + 2) l W rfl (by omega) (by omega) (by omega) h
 rw [show ((i : Int) + 2).toNat = i + 2 by omega, gd_end (show l.length ≤ i + 2 by omega)] at hwa
 obtain ⟨m, hm64⟩ : ∃ m, m = 64 - k := ⟨_, rfl⟩
 have hmi : (64 : Int) - (k : Int) = (m : Int) := by omega
 have hmn : min (i : Int) (l.length : Int) = (l.length : Int) := by omega
 have hin : IntKind.i64.wrap ((i : Int) + 2) = (i : Int) + 2 := IntWalk.i64_in _ ⟨by omega, by omega⟩
 have hor : bits BinOp.or IntKind.u64 (0 : Int) (0 : Int) = 0 := by have := u64_or_nat 0 0 (by omega) (by omega); simpa using this
 have hor2 : bits BinOp.or IntKind.u64 ((0 : Int) / 2 ^ k) (0 : Int) = 0 := by rw [Int.zero_ediv]; exact hor
 have HSG := Hi hsg
 have HWA := Hi hwa
 have HV := Hi hval
 have hwsr := hl
 clear hsg hwa hc hn hm64 hval
 by_cases hcc : c = l.length
 ·subst hcc
  exact mc03c0
 ·have hlt : l.length < c := by omega
  exact mc03c0
theorem bitsAt_any (A : Option Addr) (c : Nat) (l : List Nat) (n : Nat) (w : World) (hn : n ≤ 30000000) (h0 : 0 < l.length) (hlc : l.length ≤ c) (hm : l.length ≤ 1000000) (hl : WS w A l) :
  Calls Tryz.prog 192 #[.slice A l.length c, .int .i64 (n : Int)] w fun e w' => e = .returned (.int .u64 ((val l / 2 ^ n % 18446744073709551616 : Nat) : Int)) ∧ ∃ d, w' = w.drewN d := by
 rcases Nat.lt_or_ge (n / 32) l.length with h | h
 ·exact bitsAt_in A c l (n / 32) (n % 32) n w (by omega) (by omega) h hlc hm hl
 ·exact bitsAt_out A c l (n / 32) (n % 32) n w (by omega) (by omega) h (by omega) h0 hlc hm hl
theorem bl_bound {l : List Nat} (hl : ∀ x ∈ l, x < 4294967296) (ht : Top l) (h0 : 0 < l.length) : val l < 2 ^ bl l ∧ 2 ^ (bl l - 1) ≤ val l ∧ bl l ≤ 32 * l.length ∧ 32 * (l.length - 1) < bl l := by
 have h1 := ht h0
 have hx := getD_lt hl (l.length - 1)
 have h2 := bitLen_spec (gd l (l.length - 1)) (by omega)
 have h3 := Lib.bitLen_le (gd l (l.length - 1)) 32 (by omega) hx
 have h4 : 0 < Lib.bitLen (gd l (l.length - 1)) := by
  rcases Nat.eq_zero_or_pos (Lib.bitLen (gd l (l.length - 1))) with h | h
  ·rw [h] at h2; simp at h2; omega
  ·exact h
 have h5 : 2 ^ (Lib.bitLen (gd l (l.length - 1)) - 1) ≤ gd l (l.length - 1) := by
  rcases Nat.lt_or_ge (gd l (l.length - 1)) (2 ^ (Lib.bitLen (gd l (l.length - 1)) - 1)) with h | h
  ·have := Lib.bitLen_le _ _ (by omega) h; omega
  ·exact h
 have hv := val_take l (k := l.length - 1) (by omega)
 rw [show l.length - 1 + 1 = l.length by omega, List.take_length] at hv
 have hlt := val_lt (words_take hl (l.length - 1))
 rw [List.length_take, Nat.min_eq_left (by omega)] at hlt
 unfold bl
 rw [if_neg (by omega)]
 generalize gd l (l.length - 1) = x at *
 generalize Lib.bitLen x = b at *
 refine ⟨?_, ?_, by omega, by omega⟩
 ·rw [hv, Nat.pow_add, ← BB_two]
  have := Nat.mul_le_mul_left (BB (l.length - 1)) (show x + 1 ≤ 2 ^ b from h2)
  rw [Nat.mul_add] at this
  omega
 ·rw [hv, show 32 * (l.length - 1) + b - 1 = 32 * (l.length - 1) + (b - 1) by omega, Nat.pow_add, ← BB_two]
  have := Nat.mul_le_mul_left (BB (l.length - 1)) h5
  omega
def GuP (x0 y0 : Nat) (w : World) (e : Ending) (w' : World) : Prop :=
 ∃ (p q u v : Nat) (odd : Bool), e = .returned (.tuple #[tv p q u v, .bool odd]) ∧ (0 < q → ∃ x y, GI x0 y0 x y p q u v odd ∧ v ≤ y ∧ q + v ≤ x - y) ∧ Below w.heap.size w w'
theorem GI.le (h : GI x0 y0 x y p q u v odd) (hx : 0 < x) : u ≤ y0 ∧ v ≤ x0 := by
 have e3 := Nat.le_mul_of_pos_right u hx
 have e4 := Nat.le_mul_of_pos_right v hx
 have := h.h1
 have := h.h2
 omega
theorem GI.v_pos (h : GI x0 y0 x y p q u v odd) : 0 < v := by
 rcases h.h4 with h | h <;> omega
theorem m0e06b {P : Prop} (h : P := by
 have hfin := (((hcS.set_ 0 (.int .u64 (sp : Int))).set_ 1 (.int .u64 (sq : Int))).set_ 2 (.int .u64 (su : Int))).set_ 3 (.int .u64 (sv : Int))
 simp only [Array.setIfInBounds, List.size_toArray, List.length_cons, List.length_nil] at hfin
 have y0' := hfin.at_ 0
 have y1 := hfin.at_ 1
 have y2 := hfin.at_ 2
 have y3 := hfin.at_ 3
 simp at y0' y1 y2 y3
 have HY := Hi (And.intro y0' (And.intro y1 (And.intro y2 y3)))
 clear y0' y1 y2 y3 hfin
 go_wp2_with fail
 obtain ⟨y0', y1, y2, y3⟩ := HY.out
 refine bodyPost_ret (v := .tuple #[tv sp sq su sv, .bool (!odd)]) (by simp [results, Tryz.results175, go_sem, y0', y1, y2, y3]) rfl ?_
 exact ⟨sp, sq, su, sv, !odd, rfl, hsure.out, bs (bs (bs (bs hb (Nat.le_refl _) _) (Nat.le_refl _) _) (Nat.le_refl _) _) (Nat.le_refl _) _⟩) : P := h
theorem guessTurn_any (w : World) (A B : Option Addr) (c d : Nat) (l k : List Nat) (hl3 : 3 ≤ l.length) (hk0 : 0 < k.length) (hlm : l.length ≤ 500000) (hkm : k.length ≤ 500000) (hlc : l.length ≤ c) (hkd : k.length ≤ d) (tl : Top l) (hle : val k ≤ val l) (hl : WS w A l) (hk : WS w B k) :
  Calls Tryz.prog 175 #[.slice A l.length c, .slice B k.length d] w (GuP (val l / 2 ^ (bl l - 62)) (val k / 2 ^ (bl l - 62)) w) := by
 obtain ⟨h1, h2, h3, h4⟩ := bl_bound hl.1 tl (by omega)
 obtain ⟨s, hs⟩ : ∃ s, s = bl l - 62 := ⟨_, rfl⟩
 have hsi : (bl l : Int) - 62 = (s : Int) := by omega
 have hsb : s ≤ 30000000 := by omega
 have hx0 : val l / 2 ^ s < 4611686018427387904 := by
  refine Nat.div_lt_of_lt_mul ?_
  have e : 2 ^ bl l = 2 ^ s * 4611686018427387904 := by rw [show bl l = s + 62 by omega, Nat.pow_add]
  rw [← e]; exact h1
 have hy0 : val k / 2 ^ s ≤ val l / 2 ^ s := Nat.div_le_div_right hle
 rw [← hs]
 have hba := fun W h => bitsAt_any A c l s W hsb (by omega) hlc (by omega) h
 have hbb := fun W h => bitsAt_any B d k s W hsb hk0 hkd (by omega) h
 rw [Nat.mod_eq_of_lt (show val l / 2 ^ s < 18446744073709551616 by omega)] at hba
 rw [Nat.mod_eq_of_lt (show val k / 2 ^ s < 18446744073709551616 by omega)] at hbb
 have hbl := fun W h => bitLen_any A l.length c l W rfl (by omega) h
 obtain ⟨x0, hx0e⟩ : ∃ x, x = val l / 2 ^ s := ⟨_, rfl⟩
 obtain ⟨y0, hy0e⟩ : ∃ x, x = val k / 2 ^ s := ⟨_, rfl⟩
 rw [← hx0e] at hba hx0 hy0 ⊢
 rw [← hy0e] at hbb hy0 ⊢
 have HBA := Hi hba
 have HBB := Hi hbb
 have HBL := Hi hbl
 clear hba hbb hbl h1 h2 h3 h4 hs hx0e hy0e hle
 go_enter Tryz.func175, Tryz.ntmps175
 go_wp2_with fail
 obtain ⟨W1, hW1⟩ : ∃ W, W = w.alloc (.cells #[.int .u64 0, .int .u64 0, .int .u64 0, .int .u64 0] 150) := ⟨_, rfl⟩
 have hS1 : Cells W1 w.heap.size 150 #[.int .u64 0, .int .u64 0, .int .u64 0, .int .u64 0] := by rw [hW1]; exact Cells.new _ _ _
 have hw1 : Below w.heap.size w W1 := by rw [hW1]; exact ba (b0 _) _
 rw [← hW1]
 clear hW1
 refine (HBL.out W1 (hl.below hw1)).mono ?_
 rintro e w2 ⟨rfl, rfl⟩
 go_wp2_with fail
 refine (HBA.out W1 (hl.below hw1)).mono ?_
 rintro e w2 ⟨rfl, d1, rfl⟩
 go_wp2_with fail
 refine (HBB.out _ (hk.below (bd hw1 d1))).mono ?_
 rintro e w2 ⟨rfl, d2, rfl⟩
 go_wp2_with fail
 refine (noTurn_any _).mono ?_
 rintro e w3 ⟨rfl, hb3⟩
 have hw3 : Below w.heap.size w w3 := bt (bd hw1 (d1 + d2)) hb3
 have hS3 : Cells w3 w.heap.size 150 #[.int .u64 0, .int .u64 0, .int .u64 0, .int .u64 0] := (show Cells (W1.drewN (d1 + d2)) w.heap.size 150 _ from hS1).below hb3
 have hS3l := hS3.lt
 clear hS1 hw1 hb3
 have s0 := hS3.at_ 0
 have s1 := hS3.at_ 1
 have s2 := hS3.at_ 2
 have s3 := hS3.at_ 3
 simp at s0 s1 s2 s3
 have f0 := hS3.free 0
 have f1 := hS3.free 1
 have f2 := hS3.free 2
 have f3 := hS3.free 3
 go_wp2_with fail
 obtain ⟨Tb, hTb⟩ : ∃ T, T = w3.heap.size := ⟨_, rfl⟩
 obtain ⟨W4, hW4⟩ : ∃ W, W = (((((w3.setCell ⟨w.heap.size, 0, none⟩ (.int .u64 1)).setCell ⟨w.heap.size, 1, none⟩ (.int .u64 0)).setCell ⟨w.heap.size, 2, none⟩ (.int .u64 0)).setCell ⟨w.heap.size, 3, none⟩ (.int .u64 1)).alloc (.cells #[.int .u64 1, .int .u64 0, .int .u64 0, .int .u64 1] 150)) := ⟨_, rfl⟩
 have hS4 : Cells W4 w.heap.size 150 #[.int .u64 1, .int .u64 0, .int .u64 0, .int .u64 1] := by
  have h := (((hS3.set_ 0 (.int .u64 1)).set_ 1 (.int .u64 0)).set_ 2 (.int .u64 0)).set_ 3 (.int .u64 1)
  simp only [Array.setIfInBounds, List.size_toArray, List.length_cons, List.length_nil] at h
  rw [hW4]
  exact h.below (ba (b0 _) _)
 have hT4 : Cells W4 Tb 150 #[.int .u64 1, .int .u64 0, .int .u64 0, .int .u64 1] := by
  rw [hW4, hTb, show w3.heap.size = ((((w3.setCell ⟨w.heap.size, 0, none⟩ (.int .u64 1)).setCell ⟨w.heap.size, 1, none⟩ (.int .u64 0)).setCell ⟨w.heap.size, 2, none⟩ (.int .u64 0)).setCell ⟨w.heap.size, 3, none⟩ (.int .u64 1)).heap.size from by simp [World.setCell]]
  exact Cells.new _ _ _
 have hw4 : Below w.heap.size w W4 := by rw [hW4]; exact ba (bs (bs (bs (bs hw3 (Nat.le_refl _) _) (Nat.le_refl _) _) (Nat.le_refl _) _) (Nat.le_refl _) _) _
 have hne : ¬ Tb = w.heap.size := by omega
 have hne' : ¬ w.heap.size = Tb := by omega
 have hTl : w.heap.size ≤ Tb := by omega
 rw [← hW4, ← hTb]
 clear hW4 hTb s0 s1 s2 s3 f0 f1 f2 f3 hS3 hS3l hw3
 go_loopw [5, 7, 8] (fun ov xv yv wr => ∃ (x y p q u v : Nat) (odd : Bool) (sp sq su sv : Nat), ov = .bool (!odd) ∧ xv = .int .u64 (x : Int) ∧ yv = .int .u64 (y : Int) ∧ y ≤ x ∧ x ≤ x0 ∧ p ≤ 4611686018427387904 ∧ q ≤ 4611686018427387904 ∧ u ≤ 4611686018427387904 ∧ v ≤ 4611686018427387904 ∧ Hid (GI x0 y0 x y p q u v odd) ∧ Hid (0 < sq → ∃ xs ys, GI x0 y0 xs ys sp sq su sv (!odd) ∧ sv ≤ ys ∧ sq + sv ≤ xs - ys) ∧ Cells wr w.heap.size 150 #[.int .u64 (sp : Int), .int .u64 (sq : Int), .int .u64 (su : Int), .int .u64 (sv : Int)] ∧ Cells wr Tb 150 #[.int .u64 (p : Int), .int .u64 (q : Int), .int .u64 (u : Int), .int .u64 (v : Int)] ∧ Below w.heap.size w wr) (fun _ _ yv _ => (intOf yv).toNat)
 case atStart => exact ⟨x0, y0, 1, 0, 0, 1, false, 1, 0, 0, 1, rfl, rfl, rfl, hy0, Nat.le_refl _, by omega, by omega, by omega, by omega, GI.start _ _, fun h => absurd h (by omega), hS4, hT4, hw4⟩
 case round =>
  obtain ⟨x, y, p, q, u, v, odd, sp, sq, su, sv, rfl, rfl, rfl, hyx, hxx, hp, hq, hu, hv, hGI, hsure, hcS, hcT, hb⟩ := hrel
  have t0 := hcT.at_ 0
  have t1 := hcT.at_ 1
  have t2 := hcT.at_ 2
  have t3 := hcT.at_ 3
  have s0 := hcS.at_ 0
  have s1 := hcS.at_ 1
  have s2 := hcS.at_ 2
  have s3 := hcS.at_ 3
  simp at t0 t1 t2 t3 s0 s1 s2 s3
  have f0 := hcS.free 0
  have f1 := hcS.free 1
  have f2 := hcS.free 2
  have f3 := hcS.free 3
  have g0 := hcT.free 0
  have g1 := hcT.free 1
  have g2 := hcT.free 2
  have g3 := hcT.free 3
  have hv0 := hGI.out.v_pos
  by_cases hc1 : v ≤ y
  ·have hc1i : (v : Int) ≤ (y : Int) := by omega
   by_cases hc2 : q + v ≤ x - y
   ·have hc2i : (q : Int) + (v : Int) ≤ (x : Int) - (y : Int) := by omega
    have hy0' : 0 < y := by omega
    have hyb : ((y : Int) == 0) = false := beq_eq_false_iff_ne.2 (by omega)
    obtain ⟨cc, hcc⟩ : ∃ c, c = x / y := ⟨_, rfl⟩
    obtain ⟨r, hr⟩ : ∃ r, r = x % y := ⟨_, rfl⟩
    have hxe : x = cc * y + r := by rw [hcc, hr, Nat.mul_comm]; exact (Nat.div_add_mod x y).symm
    have hry : r < y := by rw [hr]; exact Nat.mod_lt _ hy0'
    have hd1 : (x : Int) / (y : Int) = (cc : Int) := by rw [hcc]; simp
    have hd2 : (x : Int).tdiv (y : Int) = (cc : Int) := by rw [Int.tdiv_eq_ediv_of_nonneg (by omega)]; exact hd1
    have hcx : cc ≤ x := by rw [hcc]; exact Nat.div_le_self _ _
    obtain ⟨m, hm⟩ : ∃ m, m = cc * y := ⟨_, rfl⟩
    have hmi : (cc : Int) * (y : Int) = (m : Int) := by rw [hm]; simp
    have hxm : (x : Int) - (m : Int) = (r : Int) := by omega
    have hml : m ≤ x := by omega
    have hc0 : 0 < cc := by rw [hcc]; exact Nat.div_pos hyx hy0'
    have gi2 := GI.step hGI.out hxe hc0
    have l2 := gi2.le hy0'
    have sstep := fun W => step_any p q u v cc W (by omega) (by omega) (by omega) (by omega)
    obtain ⟨u', hu'⟩ : ∃ z, z = p + cc * u := ⟨_, rfl⟩
    obtain ⟨v', hv'⟩ : ∃ z, z = q + cc * v := ⟨_, rfl⟩
    rw [← hu', ← hv'] at gi2 sstep l2
    have GI2 := Hi gi2
    have SS := Hi sstep
    have HSU : Hid (0 < q → ∃ xs ys, GI x0 y0 xs ys p q u v (!(!odd)) ∧ v ≤ ys ∧ q + v ≤ xs - ys) := Hi (fun _ => ⟨x, y, by rw [Bool.not_not]; exact hGI.out, hc1, hc2⟩)
    clear hu' hv' gi2 sstep hcc hr hxe hm hc0
    go_upto_region 8 with fail
    go_cut [] (fun wx => Cells wx w.heap.size 150 #[.int .u64 (p : Int), .int .u64 (q : Int), .int .u64 (u : Int), .int .u64 (v : Int)] ∧ Cells wx Tb 150 #[.int .u64 (u : Int), .int .u64 (v : Int), .int .u64 (u' : Int), .int .u64 (v' : Int)] ∧ Below w.heap.size w wx)
    case first =>
     go_region_law (first
      | (go_simp; go_at_call 194; refine (SS.out _).mono ?_; rintro e w5 ⟨rfl, hb5⟩; have hcT5 := (show Cells (wr.drewN 1) Tb 150 _ from hcT).below hb5; have hcS5 := (show Cells (wr.drewN 1) w.heap.size 150 _ from hcS).below hb5; have z0 := hcT5.at_ 0; have z1 := hcT5.at_ 1; have z2 := hcT5.at_ 2; have z3 := hcT5.at_ 3; have x0' := hcS5.at_ 0; have x1 := hcS5.at_ 1; have x2 := hcS5.at_ 2; have x3 := hcS5.at_ 3; simp at z0 z1 z2 z3 x0' x1 x2 x3; have k0 := hcT5.free 0; have k1 := hcT5.free 1; have k2 := hcT5.free 2; have k3 := hcT5.free 3; have j0 := hcS5.free 0; have j1 := hcS5.free 1; have j2 := hcS5.free 2; have j3 := hcS5.free 3))
     all_goals (go_wp2_with fail; go_meet)
     all_goals
      have hS6 := (((((((hcS5.set_ 0 (.int .u64 (p : Int))).set_ 1 (.int .u64 (q : Int))).set_ 2 (.int .u64 (u : Int))).set_ 3 (.int .u64 (v : Int))).far hne' 0 (.int .u64 (u : Int))).far hne' 1 (.int .u64 (v : Int))).far hne' 2 (.int .u64 (u' : Int))).far hne' 3 (.int .u64 (v' : Int))
      have hT6 := (((((((hcT5.far hne 0 (.int .u64 (p : Int))).far hne 1 (.int .u64 (q : Int))).far hne 2 (.int .u64 (u : Int))).far hne 3 (.int .u64 (v : Int))).set_ 0 (.int .u64 (u : Int))).set_ 1 (.int .u64 (v : Int))).set_ 2 (.int .u64 (u' : Int))).set_ 3 (.int .u64 (v' : Int))
      simp only [Array.setIfInBounds, List.size_toArray, List.length_cons, List.length_nil] at hS6 hT6
      have hb6 := bs (bs (bs (bs (bs (bs (bs (bs (bt (bd hb 1) hb5) (p := ⟨w.heap.size, 0, none⟩) (Nat.le_refl _) (.int .u64 (p : Int))) (p := ⟨w.heap.size, 1, none⟩) (Nat.le_refl _) (.int .u64 (q : Int))) (p := ⟨w.heap.size, 2, none⟩) (Nat.le_refl _) (.int .u64 (u : Int))) (p := ⟨w.heap.size, 3, none⟩) (Nat.le_refl _) (.int .u64 (v : Int))) (p := ⟨Tb, 0, none⟩) hTl (.int .u64 (u : Int))) (p := ⟨Tb, 1, none⟩) hTl (.int .u64 (v : Int))) (p := ⟨Tb, 2, none⟩) hTl (.int .u64 (u' : Int))) (p := ⟨Tb, 3, none⟩) hTl (.int .u64 (v' : Int))
      exact ⟨hS6, hT6, hb6⟩
    case rest =>
     obtain ⟨hcS5, hcT5, hb5⟩ := hcut
     go_wp2_with fail
     go_roundw
     case rel =>
      exact ⟨y, r, u, v, u', v', !odd, p, q, u, v, by simp, rfl, by go_num, by omega, by omega, hu, hv, by omega, by omega, GI2, HSU, hcS5, hcT5, hb5⟩
     case measure => simp [intOf]; omega
   ·have hc2i : ¬ (q : Int) + (v : Int) ≤ (x : Int) - (y : Int) := by omega
    exact m0e06b
  ·have hc1i : ¬ (v : Int) ≤ (y : Int) := by omega
   exact m0e06b
end Go.Proofs.YtgljdfblgpdaaaaGreatDoor
