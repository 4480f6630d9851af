/- The specification's shifted, unshifted, subWords, byWord. -/
import Derived.Test.YtgljdfblgpdaaaaGreatDoorNumDvM
import Derived.Test.YtgljdfblgpdaaaaGreatDoorNumPow
set_option linter.unusedSimpArgs false
set_option linter.unusedVariables false
namespace Go.Proofs.YtgljdfblgpdaaaaGreatDoor
open Go.RowKit Go.Shelf

/-- Words that lie at the beginning of a block of their own: no last 0, the value N, and what was there is kept. -/
def ShP (a : World) (N : Nat) (e : Ending) (w' : World) : Prop :=
  ∃ g L k, e = .returned (.slice (some ⟨g, 0, none⟩) k L.length) ∧ k ≤ L.length ∧ L.length ≤ 4000000 ∧ Blk w' g L ∧ a.heap.size ≤ g ∧ Top (L.take k) ∧ val (L.take k) = N ∧ Below a.heap.size a w'
theorem ShP.wsp {a : World} {N : Nat} {e : Ending} {w' : World} (h : ShP a N e w') : WsP a N e w' := by
  obtain ⟨g, L, k, he, hk, _, hb, hg, hT, hv, hB⟩ := h
  have hl : (L.take k).length = k := by rw [List.length_take]; omega
  have hw := hb.ws (o := 0) (n := k) (by omega)
  rw [List.drop_zero] at hw
  exact ⟨some ⟨g, 0, none⟩, L.length, L.take k, by rw [hl]; exact he, by omega, hw, hT, hv, hB⟩

theorem zer_add_cons (q n : Nat) : zer (q + n + 1) = zer q ++ ([] ++ (0 :: zer n)) := by
  rw [List.nil_append, show q + n + 1 = q + (n + 1) from by omega, zer_append]
  rfl

set_option maxRecDepth 100000 in
set_option maxHeartbeats 1000000 in
theorem Rshifted_any (A : Option Addr) (n c : Nat) (l : List Nat) (x : Nat) (w : World) (hn : l.length = n) (hm : n ≤ 1000000) (hx : x ≤ 30000000) (hl : WS w A l) :
    Calls Tryz.prog 148 #[.slice A n c, .int .i64 (x : Int)] w (ShP w (val l * 2 ^ x)) := by
  subst hn
  obtain ⟨s, hs⟩ : ∃ s, s = x / 32 := ⟨_, rfl⟩
  obtain ⟨k, hk⟩ : ∃ k, k = x % 32 := ⟨_, rfl⟩
  have hxk : x = 32 * s + k := by rw [hs, hk]; exact (Nat.div_add_mod x 32).symm
  have hk32 : k < 32 := by rw [hk]; exact Nat.mod_lt _ (by decide)
  have hq1 : (x : Int) / 32 = (s : Int) := by rw [hs]; simp
  have hq2 : (x : Int).tdiv 32 = (s : Int) := by rw [Int.tdiv_eq_ediv_of_nonneg (by omega)]; exact hq1
  have hr1 : (x : Int) % 32 = (k : Int) := by rw [hk]; simp
  have hr2 : (x : Int).tmod 32 = (k : Int) := by rw [Int.tmod_eq_emod_of_nonneg (by omega)]; exact hr1
  obtain ⟨N, hN⟩ : ∃ N, N = s + l.length + 1 := ⟨_, rfl⟩
  have hNi : (s : Int) + (l.length : Int) + 1 = (N : Int) := by omega
  have hNw : IntKind.i64.wrap (N : Int) = (N : Int) := IntWalk.i64_in _ ⟨by omega, by omega⟩
  have hmk := fun W => run_mk (N : Int) N rfl (by omega) W
  have hs3 : s ≤ 1000000 := by omega
  have ho := hl.off (Nat.le_refl _)
  have HPOW : Hid (2 ^ x = BB s * 2 ^ k) := Lib.hid (by rw [hxk, Nat.pow_add, bb_pow2])
  have HN := Lib.hid hN
  have hNl : N ≤ 2000001 := by omega
  clear hs hk hxk hN
  go_enter Tryz.func148, Tryz.ntmps148
  go_wp2_with fail
  go_loopw [6] (fun iv wr => ∃ (i : Nat) (S : List Nat) (r : Nat), iv = .int .i64 (i : Int) ∧ i ≤ l.length ∧ S.length = i ∧ r < 2 ^ k ∧ Hid (val S + BB i * r = val (l.take i) * 2 ^ k) ∧ Blk wr w.heap.size (zer s ++ (S ++ (r :: zer (l.length - i)))) ∧ Only w.heap.size w wr) (fun iv _ => l.length - (intOf iv).toNat)
  case atStart => exact ⟨0, [], 0, rfl, Nat.zero_le _, rfl, Nat.two_pow_pos k, Lib.hid (by simp [val]), by rw [Nat.sub_zero, ← zer_add_cons, ← HN.out]; exact Blk.new w _ (zer_lt _), Only.mono (ba (b0 _) _)⟩
  case round =>
    obtain ⟨i, S, r, rfl, hi, hS, hr, hv, hb, hO⟩ := hrel
    have HS := Lib.hid hS
    clear hS hmk
    by_cases hlt : i < l.length
    · have hlti : (i : Int) < (l.length : Int) := by omega
      obtain ⟨b, off, rfl, hblt, hc⟩ := (hl.only hO ho).at_ (by omega)
      have hc1 := hc i hlt
      have hx := hl.lt i
      have H1 := Lib.hid (val_take l hlt)
      generalize gd l i = x at *
      obtain ⟨T, hT⟩ : ∃ T, T = x * 2 ^ k := ⟨_, rfl⟩
      have hTl : T < 9223372036854775808 := by
        have h1 : 2 ^ k ≤ 2 ^ 31 := Nat.pow_le_pow_right (by decide) (by omega)
        have h2 := Nat.mul_le_mul (Nat.le_of_lt_succ hx) h1
        rw [hT]; omega
      have hTi : (x : Int) * 2 ^ k = (T : Int) := by rw [hT]; simp
      obtain ⟨hor, horl⟩ := or_shift x k r hk32 hx hr
      rw [← hT] at hor horl
      obtain ⟨V, hV⟩ : ∃ V, V = r + T % 4294967296 := ⟨_, rfl⟩
      obtain ⟨U, hU⟩ : ∃ U, U = T / 4294967296 := ⟨_, rfl⟩
      have hUi : (T : Int) / 4294967296 = (U : Int) := by rw [hU]; simp
      have hUl : U < 4294967296 := by omega
      rw [← hV, show ((T % 4294967296 : Nat) : Int) = (T : Int) % 4294967296 from by simp] at hor
      rw [← hV] at horl
      have HV := Lib.hid hV
      have HU := Lib.hid hU
      have hrl : r < 4294967296 := by omega
      have HT := Lib.hid hT
      have hLlen : (zer s ++ (S ++ (r :: zer (l.length - i)))).length = s + l.length + 1 := by simp [HS.out, zer_length]; omega
      obtain ⟨j, hj⟩ : ∃ j, j = s + i := ⟨_, rfl⟩
      have hji : (i : Int) + (s : Int) = (j : Int) := by omega
      have hjN : j < N := by have := HN.out; omega
      have hj1N : j + 1 < N := by have := HN.out; omega
      have hc2 := hb.cell (i := j) (by rw [hLlen]; omega)
      rw [show gd (zer s ++ (S ++ (r :: zer (l.length - i)))) j = r from by have h := gd_mid (zer s) S r (zer (l.length - i)); rw [zer_length, HS.out, ← hj] at h; exact h] at hc2
      have hf2 := hb.free j
      have hnext := (hb.set_ (i := j) horl)
      have hc3 := hnext.cell (i := j + 1) (by rw [List.length_set, hLlen]; omega)
      have hf3 := hnext.free (j + 1)
      have HJ := Lib.hid hj
      have HNEXT := Lib.hid hnext
      generalize gd ((zer s ++ (S ++ (r :: zer (l.length - i)))).set j V) (j + 1) = qq at *
      clear hc hT hLlen hV hU hj hnext hb
      go_wp2_with fail
      go_roundw
      case rel =>
        have hfin := HNEXT.out.set_ (i := j + 1) hUl
        have eL : ((zer s ++ (S ++ (r :: zer (l.length - i)))).set j V).set (j + 1) U = zer s ++ ((S ++ [V]) ++ (U :: zer (l.length - (i + 1)))) := by
          have e1 := set_mid2 (zer s) S r V (zer (l.length - i))
          rw [HS.out, zer_length] at e1
          rw [HJ.out, e1, show l.length - i = (l.length - (i + 1)) + 1 from by omega]
          have e2 := set_mid2 (zer s) (S ++ [V]) 0 U (zer (l.length - (i + 1)))
          rw [List.length_append, HS.out, zer_length] at e2
          rw [show zer s ++ (S ++ V :: zer (l.length - (i + 1) + 1)) = zer s ++ (S ++ [V] ++ 0 :: zer (l.length - (i + 1))) from by simp [zer, List.replicate_succ]]
          exact e2
        rw [eL] at hfin
        have hU2 : U < 2 ^ k := by
          rw [HU.out, HT.out]
          exact Nat.div_lt_of_lt_mul (by exact Nat.mul_lt_mul_of_pos_right hx (Nat.two_pow_pos k))
        refine ⟨i + 1, S ++ [V], U, by go_num, by omega, by simp [HS.out], hU2, ?_, hfin, (hO.set_ (.inl rfl) _).set_ (.inl rfl) _⟩
        refine Lib.hid ?_
        rw [val_snoc, HS.out, H1.out, BB_succ, HV.out, HU.out, Nat.add_mul, ← hv.out, Nat.mul_add, Nat.mul_assoc (BB i) 4294967296, Nat.add_assoc, Nat.add_assoc, ← Nat.mul_add, ← Nat.mul_add, Nat.mod_add_div, HT.out, Nat.mul_assoc, Nat.add_assoc, Nat.mul_add]
      case measure => simp [intOf]; omega
    · have he : i = l.length := by omega
      have hnlt : ¬ (i : Int) < (l.length : Int) := by omega
      subst he
      obtain ⟨L, hL⟩ : ∃ L, L = zer s ++ (S ++ [r]) := ⟨_, rfl⟩
      rw [Nat.sub_self, show zer 0 = [] from rfl, ← hL] at hb
      have hLl : L.length = N := by rw [hL, HN.out]; simp [HS.out, zer_length]; omega
      have hLv : val L = val l * 2 ^ x := by
        have h1 := hv.out
        rw [List.take_length] at h1
        rw [hL, val_zer_app, val_snoc, HS.out, h1, HPOW.out, Nat.mul_left_comm]
      have hws := hb.ws (o := 0) (n := N) (by omega)
      rw [List.drop_zero, ← hLl, List.take_length] at hws
      have hTR := Rtrim_any (some ⟨w.heap.size, 0, none⟩) N N L wr hLl (by omega) (Nat.le_refl _) hws
      have HTR := Lib.hid hTR
      have HLV := Lib.hid hLv
      have HLL := Lib.hid hLl
      clear hTR hLv hLl hws hL
      go_wp2_with fail
      refine HTR.out.mono ?_
      rintro e2 w4 ⟨⟨k', hk', rfl, ht1, ht2⟩, rfl⟩
      go_wp2_with fail
      go_ret
      refine ⟨w.heap.size, L, k', by rw [HLL.out]; rfl, by rw [HLL.out]; exact hk', by rw [HLL.out]; omega, hb, Nat.le_refl _, ?_, by rw [val_take_top L k' ht2, HLV.out], bo (b0 w) hO (Nat.le_refl _)⟩
      intro h0
      have e1 : (L.take k').length = k' := by rw [List.length_take, HLL.out]; omega
      rw [e1] at h0 ⊢
      rw [gd_take (by omega)]
      exact ht1 h0
end Go.Proofs.YtgljdfblgpdaaaaGreatDoor
