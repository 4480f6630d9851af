import Derived.Test.YtgljdfblgpdaaaaGreatDoorPbNumGuess
import Derived.Test.YtgljdfblgpdaaaaGreatDoorPbNumRefC
import Derived.Test.YtgljdfblgpdaaaaGreatDoorPbNumRefB
import Derived.Test.YtgljdfblgpdaaaaGreatDoorPbNumRefA
set_option linter.unusedSimpArgs false
set_option linter.unusedVariables false
set_option maxRecDepth 100000
set_option maxHeartbeats 4000000
namespace Go.Proofs.YtgljdfblgpdaaaaGreatDoor
open Go.RowKit Go.Shelf
def WsP (a : World) (N : Nat) (e : Ending) (w' : World) : Prop := ∃ A c l, e = .returned (.slice A l.length c) ∧ l.length ≤ c ∧ WS w' A l ∧ Top l ∧ val l = N ∧ Below a.heap.size a w'
theorem own_block_le {base : Nat} {W : World} {v : Value} {l : List Nat} (h : OwnR base W v l) : ∀ q, v.ownBlock = some q → base ≤ q := by
 rcases h.1.2 with ⟨rfl, _⟩ | ⟨g, cap, cur, rfl, h1, _⟩
 ·intro q hq; simp [Value.ownBlock] at hq
 ·intro q hq
  simp [Value.ownBlock] at hq
  omega
theorem val_take_all (l : List Nat) {k : Nat} (h : l.length ≤ k) : val (l.take k) = val l := by rw [List.take_of_length_le h]
theorem trim_wsp (a w : World) (A : Option Addr) (c : Nat) (l : List Nat) (N : Nat) (hm : l.length ≤ 4000000) (hc : l.length ≤ c) (hws : WS w A l) (hN : val l = N) (hb : Below a.heap.size a w) :
  Calls Tryz.prog 149 #[.slice A l.length c] w (WsP a N) := by
 refine (Rtrim_any A _ c l w rfl hm hc hws).mono ?_
 rintro e w1 ⟨⟨k, hk, rfl, h1, h2⟩, rfl⟩
 have e1 : (l.take k).length = k := by rw [List.length_take]; omega
 refine ⟨A, c, l.take k, by rw [e1], by rw [e1]; omega, hws.take k, ?_, ?_, hb⟩
 ·intro h0
  rw [e1] at h0 ⊢
  rw [gd_take (by omega)]
  exact h1 h0
 ·rw [val_take_top l k h2, hN]
theorem sum_turn {vS K r va vb x y s : Nat} (hv : vS + K * r = va + vb) (hs : s = x + y + r) :
  vS + K * (s % 4294967296) + K * 4294967296 * (s / 4294967296) = va + K * x + (vb + K * y) := by
 have h1 : K * (s % 4294967296) + K * 4294967296 * (s / 4294967296) = K * s := by
  rw [Nat.mul_assoc, ← Nat.mul_add, Nat.mod_add_div]
 rw [Nat.add_assoc, h1, hs, Nat.mul_add, Nat.mul_add]
 omega
theorem m70cfb {P : Prop} (h : P := by
 clear hlt hk
 go_wp2_with fail
 refine (HX.out _ (hA.below hO)).mono ?_
 rintro _ w1 ⟨rfl, rfl⟩
 go_wp2_with fail
 refine (HY.out _ (hB.below hO)).mono ?_
 rintro _ w1 ⟨rfl, rfl⟩
 go_wp2_with (at_builtin; refine wpList_append_lies _ rfl (.tmp 30) (.tmp 33) _ rfl w.heap.size 83 i0 _ 1 4 Tryz.underlying22 hi0 hz0 hz1 hz2 rfl (by omega) (.slice O k cap) k (wv S) rfl HROW.out ⟨wr.heap.size, 0, none⟩ 1 1 (([z] : List Nat).map fun (x : Nat) => Value.int .u32 (x : Int)) rfl (by simp) (news_ws (k := 1) (l := [z]) (by simp) HWS.out) one_words (by omega) (by simp only [maxLen]; omega) (by omega) (by omega) _ rfl ?_; intro g cap2 w3 hown hgrow hat hlt3)
 have hw3 : ∀ y ∈ S ++ [z], y < 4294967296 := words_snoc HB.out.2 et
 have e : wv (S ++ [z]) = wv S ++ ([z] : List Nat).map fun (x : Nat) => Value.int .u32 (x : Int) := by simp [wv]
 have hO3 := HO2.out.grown hgrow hO2s HOB.out
 have hown' : w3.ownsRow w.heap.size 83 1 (.slice (some ⟨g, 0, none⟩) (k + 1) cap2) (S ++ [z]).length (wv (S ++ [z])) := by rw [e, List.length_append, HS.out]; exact hown
 go_roundw
 case rel =>
  refine ⟨k + 1, S ++ [z], s / 4294967296, by omega, by go_num, by go_num, by omega, by simp [HS.out], ?_, ⟨hown', hw3⟩, hO3⟩
  rw [val_snoc, HS.out, H1.out, H2.out, BB_succ, HZ.out]
  exact sum_turn HV.out HSS.out
 case measure =>
  have := HK.out
  simp [intOf]
  omega) : P := h
theorem RaddWords_any (A B : Option Addr) (n c m d : Nat) (la lb : List Nat) (w : World) (hn : la.length = n) (hm : lb.length = m) (hn2 : n ≤ 1000000) (hm2 : m ≤ 1000000) (hA : WS w A la) (hB : WS w B lb) :
  Calls Tryz.prog 92 #[.slice A n c, .slice B m d] w (WsP w (val la + val lb)) := by
 subst hn hm
 obtain ⟨i0, hi0, hz0, hz1, hz2⟩ := info_v
 have HW0 := Hi (fun (k : Nat) (hk : k ≤ 2000000) W h => Rword_any A la.length c (k : Int) la W rfl (by omega) (by omega) (by omega) h)
 have HW1 := Hi (fun (k : Nat) (hk : k ≤ 2000000) W h => Rword_any B lb.length d (k : Int) lb W rfl (by omega) (by omega) (by omega) h)
 go_enter Tryz.func92, Tryz.ntmps92
 go_wp2_with fail
 go_loopw [5, 6, 7] (fun ov cv iv wr => ∃ (k : Nat) (S : List Nat) (r : Nat), (k ≤ la.length ∨ k ≤ lb.length) ∧ iv = .int .i64 (k : Int) ∧ cv = .int .u64 (r : Int) ∧ r ≤ 1 ∧ S.length = k ∧ val S + BB k * r = val (la.take k) + val (lb.take k) ∧ OwnR w.heap.size wr ov S ∧ Below w.heap.size w wr) (fun _ _ iv _ => la.length + lb.length - (intOf iv).toNat)
 case atStart => exact ⟨0, [], 0, .inl (Nat.zero_le _), rfl, rfl, by omega, rfl, by simp [val, BB], OwnR.nil _ _, b0 _⟩
 case round =>
  obtain ⟨k, S, r, hk, rfl, rfl, hr, hS, hv, hb, hO⟩ := hrel
  obtain ⟨O, cap, rfl⟩ := hb.slice
  rw [hS] at hb ⊢
  have hk2 : k ≤ 1000000 := by omega
  by_cases hlt : k < la.length ∨ k < lb.length
  ·have hx : gd la k < 4294967296 := getD_lt hA.1 k
   have hy : gd lb k < 4294967296 := getD_lt hB.1 k
   have H1 := Hi (val_take_any la k)
   have H2 := Hi (val_take_any lb k)
   have HX := Hi (HW0.out k (by omega))
   have HY := Hi (HW1.out k (by omega))
   rw [Int.toNat_natCast] at HX HY
   generalize gd la k = x at *
   generalize gd lb k = y at *
   obtain ⟨s, hs⟩ : ∃ s, s = x + y + r := ⟨_, rfl⟩
   have hsl : s < 8589934593 := by omega
   obtain ⟨z, hz⟩ : ∃ z, z = s % 4294967296 := ⟨_, rfl⟩
   have et : z < 4294967296 := by omega
   have hzi : (s : Int) % 4294967296 = (z : Int) := by omega
   have HZ := Hi hz
   clear hz
   have hone : Blk (wr.alloc (.cells #[.int .u32 (z : Int)] 83)) wr.heap.size [z] := Blk.new wr [z] (by simpa using et)
   have hws := hone.ws (o := 0) (n := 1) (by simp)
   rw [List.drop_zero, show List.take 1 [z] = [z] from rfl] at hws
   have hb2 := hb.below (ba (b0 wr) (.cells #[.int .u32 (z : Int)] 83))
   have hrow := hb2.1
   rw [hS] at hrow
   have hob := own_block_le hb
   have hO2 := ba hO (.cells #[.int .u32 (z : Int)] 83)
   have hO2s := hO2.size
   have HROW := Hi hrow
   have HWS := Hi hws
   have HOB := Hi hob
   have HO2 := Hi hO2
   have HS := Hi hS
   have HV := Hi hv
   have HB := Hi hb
   have HK := Hi hlt
   have hsi : (x : Int) + (y : Int) + (r : Int) = (s : Int) := by omega
   have hsw : IntKind.u64.wrap (s : Int) = (s : Int) := IntWalk.u64_in _ ⟨by omega, by omega⟩
   have HSS := Hi hs
   clear hs
   clear hS hv hb hrow hws hone hob hO2 hb2
   rcases Nat.lt_or_ge k la.length with h1 | h1
   ·have h1i : (k : Int) < (la.length : Int) := by omega
    exact m70cfb
   ·have h1i : ¬ (k : Int) < (la.length : Int) := by omega
    have h2i : (k : Int) < (lb.length : Int) := by omega
    exact m70cfb
  ·have h1i : ¬ (k : Int) < (la.length : Int) := by omega
   have h2i : ¬ (k : Int) < (lb.length : Int) := by omega
   have hrl : r < 4294967296 := by omega
   have hone : Blk (wr.alloc (.cells #[.int .u32 (r : Int)] 83)) wr.heap.size [r] := Blk.new wr [r] (by simpa using hrl)
   have hws := hone.ws (o := 0) (n := 1) (by simp)
   rw [List.drop_zero, show List.take 1 [r] = [r] from rfl] at hws
   have hb2 := hb.below (ba (b0 wr) (.cells #[.int .u32 (r : Int)] 83))
   have hrow := hb2.1
   rw [hS] at hrow
   have hob := own_block_le hb
   have hO2 := ba hO (.cells #[.int .u32 (r : Int)] 83)
   have hO2s := hO2.size
   have hv2 : val (S ++ [r]) = val la + val lb := by
    rw [val_snoc, hS, hv, val_take_all la (by omega), val_take_all lb (by omega)]
   have HV := Hi hv2
   have HB := Hi hb
   clear hv hv2 hb hlt
   go_wp2_with (at_builtin; refine wpList_append_lies _ rfl (.tmp 37) (.tmp 40) _ rfl w.heap.size 83 i0 _ 1 4 Tryz.underlying22 hi0 hz0 hz1 hz2 rfl (by omega) (.slice O k cap) k (wv S) rfl hrow ⟨wr.heap.size, 0, none⟩ 1 1 (([r] : List Nat).map fun (x : Nat) => Value.int .u32 (x : Int)) rfl (by simp) (news_ws (k := 1) (l := [r]) (by simp) hws) one_words (by omega) (by simp only [maxLen]; omega) (by omega) (by omega) _ rfl ?_; intro g cap2 w3 hown hgrow hat hlt3)
   have hw3 : ∀ x ∈ S ++ [r], x < 4294967296 := words_snoc HB.out.2 hrl
   have e : wv (S ++ [r]) = wv S ++ ([r] : List Nat).map fun (x : Nat) => Value.int .u32 (x : Int) := by simp [wv]
   have hown' : w3.ownsRow w.heap.size 83 1 (.slice (some ⟨g, 0, none⟩) (k + 1) cap2) (k + 1) (wv (S ++ [r])) := by rw [e]; exact hown
   obtain ⟨hcap, hws3⟩ := ws_of_row (l := S ++ [r]) (n := k + 1) hw3 (by simp [hS]) hown' (by omega) hlt3
   have hO3 := hO2.grown hgrow hO2s hob
   have hlen : (S ++ [r]).length = k + 1 := by simp [hS]
   have hT := trim_wsp w w3 _ cap2 (S ++ [r]) _ (by omega) (by omega) hws3 HV.out hO3
   rw [hlen] at hT
   go_wp2_with fail
   refine hT.mono ?_
   rintro e2 w4 ⟨A4, c4, l4, rfl, h4⟩
   go_wp2_with fail
   go_ret
   exact ⟨A4, c4, l4, rfl, h4⟩
open Go.RowKit Go.Shelf
variable {w : World}
theorem Only.drw {g : Nat} {a w : World} (h : Only g a w) (n : Nat) : Only g a (w.drewN n) := ⟨h.os, h.tape, h.output, h.size, h.block⟩
theorem ws_cell {b off : Nat} {l : List Nat} (h : WS w (some ⟨b, off, none⟩) l) {j : Nat} (hj : j < l.length) : w.cell? ⟨b, off + j, none⟩ = some (.int .u32 ((gd l j : Nat) : Int)) := by
 obtain ⟨b', off', e, _, hc⟩ := h.at_ (by omega)
 injection e with e
 injection e with e1 e2
 subst e1 e2
 exact hc j hj
open Go.RowKit
variable {D g k n : Nat} {L Q : List Nat}
theorem dv_sub {vT vS g vd K bo ca x z p t : Nat} (h : vT + g * vd = vS + K * (bo + ca)) (hp : p = x * g + ca) (ht : t + p % 4294967296 + bo = z + 4294967296) (hc : t / 4294967296 ≤ 1) :
  vT + K * (t % 4294967296) + g * (vd + K * x) = vS + K * z + K * 4294967296 * ((1 - t / 4294967296) + p / 4294967296) := by
 obtain ⟨xg, hxg⟩ : ∃ xg, xg = x * g := ⟨_, rfl⟩
 obtain ⟨c, hcc⟩ : ∃ c, c = t / 4294967296 := ⟨_, rfl⟩
 obtain ⟨q, hq⟩ : ∃ q, q = p / 4294967296 := ⟨_, rfl⟩
 obtain ⟨z', hz'⟩ : ∃ z', z' = t % 4294967296 := ⟨_, rfl⟩
 have e : z' + xg + (bo + ca) = z + 4294967296 * ((1 - c) + q) := by
  rw [hxg] at *
  have := Nat.div_add_mod p 4294967296
  have := Nat.div_add_mod t 4294967296
  omega
 rw [← hcc, ← hq, ← hz']
 have eK := congrArg (fun y => K * y) e
 simp only [Nat.mul_add K] at eK
 have e1 : g * (vd + K * x) = g * vd + K * xg := by rw [hxg, Nat.mul_add, Nat.mul_left_comm, Nat.mul_comm g x]
 have e2 : K * 4294967296 * ((1 - c) + q) = K * (4294967296 * ((1 - c) + q)) := Nat.mul_assoc _ _ _
 rw [e1, e2]
 rw [Nat.mul_add K] at h
 omega
theorem dv_guess {U D K dt top g lo : Nat} (hU : U = lo + K * top) (hlo : lo < K) (hD : K * dt ≤ D) (hg : top < (g + 1) * dt) : U < (g + 1) * D := by
 have h1 : K * (top + 1) ≤ K * ((g + 1) * dt) := Nat.mul_le_mul_left K hg
 have h2 : (g + 1) * (K * dt) ≤ (g + 1) * D := Nat.mul_le_mul_left _ hD
 have h3 : K * ((g + 1) * dt) = (g + 1) * (K * dt) := Nat.mul_left_comm _ _ _
 rw [Nat.mul_add] at h1
 omega
theorem dv_end {a b Q R P : Nat} (hP : 0 < P) (hb : 0 < b) (h : Q * (b * P) + R = a * P) (hR : R < b * P) : Q = a / b ∧ R = (a % b) * P := by
 have hbP : 0 < b * P := Nat.mul_pos hb hP
 have h1 := (Nat.div_mod_unique (a := a * P) (b := b * P) (c := R) (d := Q) hbP).2 ⟨by rw [Nat.mul_comm (b * P) Q]; omega, hR⟩
 rw [Nat.mul_div_mul_right _ _ hP, Nat.mul_mod_mul_right] at h1
 exact ⟨h1.1.symm, h1.2.symm⟩
theorem dv_fix {W W' c U g D K : Nat} (h : W + (g + 1) * D = U + K) (ha : W' + K * c = W + D) (hc : c ≤ 1) : W' + g * D = U + K * (1 - c) := by
 rw [Nat.add_mul, Nat.one_mul] at h
 rcases Nat.le_one_iff_eq_zero_or_eq_one.1 hc with rfl | rfl
 ·simp at *; omega
 ·simp at *; omega
theorem bb_pow2 (n : Nat) : BB n = 2 ^ (32 * n) := by unfold BB; rw [show (4294967296 : Nat) = 2 ^ 32 from rfl, ← Nat.pow_mul]
theorem val_drop_cons (L : List Nat) (h : k < L.length) : val (L.drop k) = gd L k + 4294967296 * val (L.drop (k + 1)) := by
 rw [List.drop_eq_getElem_cons h, gd_at h]
 rfl
theorem val_seg_drop (L : List Nat) (k n : Nat) (h : k + n ≤ L.length) : val (L.drop k) = val (seg L k n) + BB n * val (L.drop (k + n)) := by
 have h1 := val_append (seg L k n) (L.drop (k + n))
 rw [seg_length h] at h1
 rw [← h1]
 congr 1
 unfold seg
 rw [← List.drop_drop, List.take_append_drop]
theorem val_take_drop (L : List Nat) (k : Nat) (h : k ≤ L.length) : val L = val (L.take k) + BB k * val (L.drop k) := by
 have h1 := val_append (L.take k) (L.drop k)
 rw [List.take_append_drop, List.length_take, Nat.min_eq_left h] at h1
 exact h1
theorem spl_take (L : List Nat) (o : Nat) (S : List Nat) (h : o ≤ L.length) : (spl L o S).take o = L.take o := by
 unfold spl
 rw [List.append_assoc, List.take_append_of_le_length (by rw [List.length_take]; omega), List.take_take, Nat.min_self]
theorem spl_drop (L : List Nat) (o : Nat) (S : List Nat) (h : o ≤ L.length) : (spl L o S).drop o = S ++ L.drop (o + S.length) := by
 unfold spl
 have e : (L.take o).length = o := by rw [List.length_take]; omega
 rw [List.append_assoc, List.drop_append_of_le_length (by omega), List.drop_eq_nil_of_le (by omega)]
 rfl
theorem dv_hz (hD : D < BB n) (hk : k + n < L.length) (hr : val (L.drop (k + 1)) < D) : val (L.drop (k + (n + 1))) = 0 := by
 have h1 := val_seg_drop L (k + 1) n (by omega)
 rw [show k + 1 + n = k + (n + 1) by omega] at h1
 rcases Nat.eq_zero_or_pos (val (L.drop (k + (n + 1)))) with h | h
 ·exact h
 ·have h2 := Nat.le_mul_of_pos_right (BB n) h
  omega
theorem dv_set (hkQ : k < Q.length) (hQ0 : gd Q k = 0) : val (Q.set k g) = val Q + BB k * g := by
 have h1 := val_take_drop (Q.set k g) k (by rw [List.length_set]; omega)
 have h2 := val_take_drop Q k (by omega)
 have h3 : (Q.set k g).take k = Q.take k := by rw [List.take_set_of_le (Nat.le_refl _)]
 have h4 : (Q.set k g).drop k = g :: Q.drop (k + 1) := by
  rw [List.drop_eq_getElem_cons (by rw [List.length_set]; exact hkQ), List.getElem_set_self, List.drop_set_of_lt (by omega)]
 have h5 := val_drop_cons Q hkQ
 rw [hQ0, Nat.zero_add] at h5
 have h6 : val (g :: Q.drop (k + 1)) = g + val (Q.drop k) := by rw [h5]; rfl
 rw [h3, h4, h6, Nat.mul_add] at h1
 omega
theorem dv_round {L Q T : List Nat} {A D g k n : Nat} (hD : D < BB n) (hk : k + n < L.length) (hT : T.length = n + 1) (hi : val Q * D + val L = A) (hr : val (L.drop (k + 1)) < D)
  (hW : val T + g * D = val (seg L k (n + 1))) (hWD : val T < D) (hkQ : k < Q.length) (hQ0 : gd Q k = 0) :
  val (Q.set k g) * D + val (spl L k T) = A ∧ val ((spl L k T).drop k) < D := by
 have hz := dv_hz hD hk hr
 have hd : val ((spl L k T).drop k) = val T := by
  rw [spl_drop L k T (by omega), val_append, hT, hz, Nat.mul_zero, Nat.add_zero]
 have hLd : val (L.drop k) = val (seg L k (n + 1)) := by
  rw [val_seg_drop L k (n + 1) (by omega), hz, Nat.mul_zero, Nat.add_zero]
 have hs1 := val_take_drop (spl L k T) k (by rw [spl_length (by omega)]; omega)
 have hs2 := val_take_drop L k (by omega)
 rw [spl_take L k T (by omega), hd] at hs1
 rw [hLd, ← hW, Nat.mul_add] at hs2
 refine ⟨?_, by rw [hd]; exact hWD⟩
 rw [dv_set hkQ hQ0, hs1, Nat.add_mul, Nat.mul_assoc]
 omega
open Go.RowKit Go.Shelf
def ShP (a : World) (N : Nat) (e : Ending) (w' : World) : Prop :=
 ∃ g L k, e = .returned (.slice (some ⟨g, 0, none⟩) k L.length) ∧ k ≤ L.length ∧ L.length ≤ 4000000 ∧ Blk w' g L ∧ a.heap.size ≤ g ∧ Top (L.take k) ∧ val (L.take k) = N ∧ Below a.heap.size a w'
theorem zer_add_cons (q n : Nat) : zer (q + n + 1) = zer q ++ ([] ++ (0 :: zer n)) := by
 rw [List.nil_append, show q + n + 1 = q + (n + 1) from by omega, zer_append]
 rfl
theorem Rshifted_any (A : Option Addr) (n c : Nat) (l : List Nat) (x : Nat) (w : World) (hn : l.length = n) (hm : n ≤ 1000000) (hx : x ≤ 30000000) (hl : WS w A l) :
  Calls Tryz.prog 148 #[.slice A n c, .int .i64 (x : Int)] w (ShP w (val l * 2 ^ x)) := by
 subst hn
 obtain ⟨s, hs⟩ : ∃ s, s = x / 32 := ⟨_, rfl⟩
 obtain ⟨k, hk⟩ : ∃ k, k = x % 32 := ⟨_, rfl⟩
 have hxk : x = 32 * s + k := by rw [hs, hk]; exact (Nat.div_add_mod x 32).symm
 have hk32 : k < 32 := by rw [hk]; exact Nat.mod_lt _ (by decide)
 have hq1 : (x : Int) / 32 = (s : Int) := by rw [hs]; simp
 have hq2 : (x : Int).tdiv 32 = (s : Int) := by rw [Int.tdiv_eq_ediv_of_nonneg (by omega)]; exact hq1
 have hr1 : (x : Int) % 32 = (k : Int) := by rw [hk]; simp
 have hr2 : (x : Int).tmod 32 = (k : Int) := by rw [Int.tmod_eq_emod_of_nonneg (by omega)]; exact hr1
 obtain ⟨N, hN⟩ : ∃ N, N = s + l.length + 1 := ⟨_, rfl⟩
 have hNi : (s : Int) + (l.length : Int) + 1 = (N : Int) := by omega
 have hNw : IntKind.i64.wrap (N : Int) = (N : Int) := IntWalk.i64_in _ ⟨by omega, by omega⟩
 have hmk := fun W => run_mk (N : Int) N rfl (by omega) W
 have hs3 : s ≤ 1000000 := by omega
 have ho := hl.off (Nat.le_refl _)
 have HPOW : Hid (2 ^ x = BB s * 2 ^ k) := Hi (by rw [hxk, Nat.pow_add, bb_pow2])
 have HN := Hi hN
 have hNl : N ≤ 2000001 := by omega
 clear hs hk hxk hN
 go_enter Tryz.func148, Tryz.ntmps148
 go_wp2_with fail
 go_loopw [6] (fun iv wr => ∃ (i : Nat) (S : List Nat) (r : Nat), iv = .int .i64 (i : Int) ∧ i ≤ l.length ∧ S.length = i ∧ r < 2 ^ k ∧ Hid (val S + BB i * r = val (l.take i) * 2 ^ k) ∧ Blk wr w.heap.size (zer s ++ (S ++ (r :: zer (l.length - i)))) ∧ Only w.heap.size w wr) (fun iv _ => l.length - (intOf iv).toNat)
 case atStart => exact ⟨0, [], 0, rfl, Nat.zero_le _, rfl, Nat.two_pow_pos k, Hi (by simp [val]), by rw [Nat.sub_zero, ← zer_add_cons, ← HN.out]; exact Blk.new w _ (zer_lt _), Only.mono (ba (b0 _) _)⟩
 case round =>
  obtain ⟨i, S, r, rfl, hi, hS, hr, hv, hb, hO⟩ := hrel
  have HS := Hi hS
  clear hS hmk
  by_cases hlt : i < l.length
  ·have hlti : (i : Int) < (l.length : Int) := by omega
   obtain ⟨b, off, rfl, hblt, hc⟩ := (hl.only hO ho).at_ (by omega)
   have hc1 := hc i hlt
   have hx := hl.lt i
   have H1 := Hi (val_take l hlt)
   generalize gd l i = x at *
   obtain ⟨T, hT⟩ : ∃ T, T = x * 2 ^ k := ⟨_, rfl⟩
   have hTl : T < 9223372036854775808 := by
    exact md3f3b
   have hTi : (x : Int) * 2 ^ k = (T : Int) := by rw [hT]; simp
   obtain ⟨hor, horl⟩ := or_shift x k r hk32 hx hr
   rw [← hT] at hor horl
   obtain ⟨V, hV⟩ : ∃ V, V = r + T % 4294967296 := ⟨_, rfl⟩
   obtain ⟨U, hU⟩ : ∃ U, U = T / 4294967296 := ⟨_, rfl⟩
   have hUi : (T : Int) / 4294967296 = (U : Int) := by rw [hU]; simp
   have hUl : U < 4294967296 := by omega
   rw [← hV, show ((T % 4294967296 : Nat) : Int) = (T : Int) % 4294967296 from by simp] at hor
   rw [← hV] at horl
   have HV := Hi hV
   have HU := Hi hU
   have hrl : r < 4294967296 := by omega
   have HT := Hi hT
   have hLlen : (zer s ++ (S ++ (r :: zer (l.length - i)))).length = s + l.length + 1 := by simp [HS.out, zer_length]; omega
   obtain ⟨j, hj⟩ : ∃ j, j = s + i := ⟨_, rfl⟩
   have hji : (i : Int) + (s : Int) = (j : Int) := by omega
   have hjN : j < N := by have := HN.out; omega
   have hj1N : j + 1 < N := by have := HN.out; omega
   have hc2 := hb.cell (i := j) (by rw [hLlen]; omega)
   rw [show gd (zer s ++ (S ++ (r :: zer (l.length - i)))) j = r from by have h := gd_mid (zer s) S r (zer (l.length - i)); rw [zer_length, HS.out, ← hj] at h; exact h] at hc2
   have hf2 := hb.free j
   have hnext := (hb.set_ (i := j) horl)
   have hc3 := hnext.cell (i := j + 1) (by rw [List.length_set, hLlen]; omega)
   have hf3 := hnext.free (j + 1)
   have HJ := Hi hj
   have HNEXT := Hi hnext
   generalize gd ((zer s ++ (S ++ (r :: zer (l.length - i)))).set j V) (j + 1) = qq at *
   clear hc hT hLlen hV hU hj hnext hb
   go_wp2_with fail
   go_roundw
   case rel =>
    have hfin := HNEXT.out.set_ (i := j + 1) hUl
    have eL : ((zer s ++ (S ++ (r :: zer (l.length - i)))).set j V).set (j + 1) U = zer s ++ ((S ++ [V]) ++ (U :: zer (l.length - (i + 1)))) := by
     have e1 := set_mid2 (zer s) S r V (zer (l.length - i))
     rw [HS.out, zer_length] at e1
     rw [HJ.out, e1, show l.length - i = (l.length - (i + 1)) + 1 from by omega]
     have e2 := set_mid2 (zer s) (S ++ [V]) 0 U (zer (l.length - (i + 1)))
     rw [List.length_append, HS.out, zer_length] at e2
     rw [show zer s ++ (S ++ V :: zer (l.length - (i + 1) + 1)) = zer s ++ (S ++ [V] ++ 0 :: zer (l.length - (i + 1))) from by simp [zer, List.replicate_succ]]
     exact e2
    rw [eL] at hfin
    have hU2 : U < 2 ^ k := by
     rw [HU.out, HT.out]
     exact Nat.div_lt_of_lt_mul (by exact Nat.mul_lt_mul_of_pos_right hx (Nat.two_pow_pos k))
    refine ⟨i + 1, S ++ [V], U, by go_num, by omega, by simp [HS.out], hU2, ?_, hfin, (hO.set_ (.inl rfl) _).set_ (.inl rfl) _⟩
    refine Hi ?_
    exact m5c9b2
   case measure => simp [intOf]; omega
  ·have he : i = l.length := by omega
   have hnlt : ¬ (i : Int) < (l.length : Int) := by omega
   subst he
   obtain ⟨L, hL⟩ : ∃ L, L = zer s ++ (S ++ [r]) := ⟨_, rfl⟩
   rw [Nat.sub_self, show zer 0 = [] from rfl, ← hL] at hb
   have hLl : L.length = N := by rw [hL, HN.out]; simp [HS.out, zer_length]; omega
   have hLv : val L = val l * 2 ^ x := by
    have h1 := hv.out
    rw [List.take_length] at h1
    rw [hL, val_zer_app, val_snoc, HS.out, h1, HPOW.out, Nat.mul_left_comm]
   have hws := hb.ws (o := 0) (n := N) (by omega)
   rw [List.drop_zero, ← hLl, List.take_length] at hws
   have hTR := Rtrim_any (some ⟨w.heap.size, 0, none⟩) N N L wr hLl (by omega) (Nat.le_refl _) hws
   have HTR := Hi hTR
   have HLV := Hi hLv
   have HLL := Hi hLl
   clear hTR hLv hLl hws hL
   go_wp2_with fail
   refine HTR.out.mono ?_
   rintro e2 w4 ⟨⟨k', hk', rfl, ht1, ht2⟩, rfl⟩
   go_wp2_with fail
   go_ret
   refine ⟨w.heap.size, L, k', by rw [HLL.out]; rfl, by rw [HLL.out]; exact hk', by rw [HLL.out]; omega, hb, Nat.le_refl _, ?_, by rw [val_take_top L k' ht2, HLV.out], bo (b0 w) hO (Nat.le_refl _)⟩
   intro h0
   have e1 : (L.take k').length = k' := by rw [List.length_take, HLL.out]; omega
   rw [e1] at h0 ⊢
   rw [gd_take (by omega)]
   exact ht1 h0
open Go.RowKit Go.Shelf
theorem sub_turn {vS K r va vb x y s : Nat} (hv : vS + vb = va + K * r) (hs : s + y + r = x + 4294967296) (hc : s / 4294967296 ≤ 1) :
  vS + K * (s % 4294967296) + (vb + K * y) = va + K * x + K * 4294967296 * (1 - s / 4294967296) := by
 have e : s % 4294967296 + y + r = x + 4294967296 * (1 - s / 4294967296) := by omega
 have eK := congrArg (fun z => K * z) e
 simp only [Nat.mul_add K] at eK
 rw [Nat.mul_assoc K]
 omega
theorem mbad0a {P : Prop} (h : P := by
 rintro e2 w4 ⟨A4, c4, l4, rfl, h4⟩
 go_wp2_with fail
 go_ret
 exact ⟨A4, c4, l4, rfl, h4⟩) : P := h
theorem m0083c {P : Prop} (h : P := by
 rcases hb.1.2 with ⟨h1, h2⟩ | ⟨g', cap', cur, h1, _, _, h3, _⟩
 ·injection h1 with _ _ h4; omega
 ·injection h1 with _ _ h4; omega) : P := h
theorem RsubWords_any (A B : Option Addr) (n c m d : Nat) (la lb : List Nat) (w : World) (hn : la.length = n) (hm : lb.length = m) (hn2 : n ≤ 1000000) (hmn : m ≤ n) (hle : val lb ≤ val la) (hA : WS w A la) (hB : WS w B lb) :
  Calls Tryz.prog 93 #[.slice A n c, .slice B m d] w (WsP w (val la - val lb)) := by
 subst hn hm
 obtain ⟨i0, hi0, hz0, hz1, hz2⟩ := info_v
 have HW0 := Hi (fun (k : Nat) (hk : k ≤ 2000000) W h => Rword_any A la.length c (k : Int) la W rfl (by omega) (by omega) (by omega) h)
 have HW1 := Hi (fun (k : Nat) (hk : k ≤ 2000000) W h => Rword_any B lb.length d (k : Int) lb W rfl (by omega) (by omega) (by omega) h)
 have HLE := Hi hle
 clear hle
 go_enter Tryz.func93, Tryz.ntmps93
 go_wp2_with fail
 go_loopw [5, 6, 7] (fun ov cv iv wr => ∃ (k : Nat) (S : List Nat) (r : Nat), k ≤ la.length ∧ iv = .int .i64 (k : Int) ∧ cv = .int .u64 (r : Int) ∧ r ≤ 1 ∧ S.length = k ∧ val S + val (lb.take k) = val (la.take k) + BB k * r ∧ OwnR w.heap.size wr ov S ∧ Below w.heap.size w wr) (fun _ _ iv _ => la.length - (intOf iv).toNat)
 case atStart => exact ⟨0, [], 0, Nat.zero_le _, rfl, rfl, by omega, rfl, by simp [val, BB], OwnR.nil _ _, b0 _⟩
 case round =>
  obtain ⟨k, S, r, hk, rfl, rfl, hr, hS, hv, hb, hO⟩ := hrel
  obtain ⟨O, cap, rfl⟩ := hb.slice
  rw [hS] at hb ⊢
  by_cases hlt : k < la.length
  ·have hx : gd la k < 4294967296 := getD_lt hA.1 k
   have hy : gd lb k < 4294967296 := getD_lt hB.1 k
   have H1 := Hi (val_take_any la k)
   have H2 := Hi (val_take_any lb k)
   have HX := Hi (HW0.out k (by omega))
   have HY := Hi (HW1.out k (by omega))
   rw [Int.toNat_natCast] at HX HY
   generalize gd la k = x at *
   generalize gd lb k = y at *
   obtain ⟨s, hs⟩ : ∃ s, s + y + r = x + 4294967296 := ⟨x + 4294967296 - y - r, by omega⟩
   have hsl : s < 8589934592 := by omega
   obtain ⟨z, hz⟩ : ∃ z, z = s % 4294967296 := ⟨_, rfl⟩
   obtain ⟨q, hq⟩ : ∃ q, q = s / 4294967296 := ⟨_, rfl⟩
   have hqi : (s : Int) / 4294967296 = (q : Int) := by omega
   have hql : q ≤ 1 := by omega
   obtain ⟨r2, hr2⟩ : ∃ r2, r2 = 1 - q := ⟨_, rfl⟩
   have hri : (1 : Int) - (q : Int) = (r2 : Int) := by omega
   have hr2l : r2 ≤ 1 := by omega
   have et : z < 4294967296 := by omega
   have hzi : (s : Int) % 4294967296 = (z : Int) := by omega
   have HZ := Hi hz
   have HQ := Hi hq
   have HR2 := Hi hr2
   clear hz hq hr2
   have hone : Blk (wr.alloc (.cells #[.int .u32 (z : Int)] 83)) wr.heap.size [z] := Blk.new wr [z] (by simpa using et)
   have hws := hone.ws (o := 0) (n := 1) (by simp)
   rw [List.drop_zero, show List.take 1 [z] = [z] from rfl] at hws
   have hb2 := hb.below (ba (b0 wr) (.cells #[.int .u32 (z : Int)] 83))
   have hrow := hb2.1
   rw [hS] at hrow
   have hob := own_block_le hb
   have hO2 := ba hO (.cells #[.int .u32 (z : Int)] 83)
   have hO2s := hO2.size
   have HROW := Hi hrow
   have HWS := Hi hws
   have HOB := Hi hob
   have HO2 := Hi hO2
   have HS := Hi hS
   have HV := Hi hv
   have HB := Hi hb
   have hx1 : (x : Int) + 4294967296 < 18446744073709551616 := by omega
   have hsi : (x : Int) + 4294967296 - (y : Int) - (r : Int) = (s : Int) := by omega
   have hsw : IntKind.u64.wrap (s : Int) = (s : Int) := IntWalk.u64_in _ ⟨by omega, by omega⟩
   have HSS := Hi hs
   clear hs
   clear hS hv hb hrow hws hone hob hO2 hb2
   have h1i : (k : Int) < (la.length : Int) := by omega
   clear hlt hk
   go_wp2_with fail
   refine (HX.out _ (hA.below hO)).mono ?_
   rintro _ w1 ⟨rfl, rfl⟩
   go_wp2_with fail
   refine (HY.out _ (hB.below hO)).mono ?_
   rintro _ w1 ⟨rfl, rfl⟩
   go_wp2_with (at_builtin; refine wpList_append_lies _ rfl (.tmp 25) (.tmp 28) _ rfl w.heap.size 83 i0 _ 1 4 Tryz.underlying22 hi0 hz0 hz1 hz2 rfl (by omega) (.slice O k cap) k (wv S) rfl HROW.out ⟨wr.heap.size, 0, none⟩ 1 1 (([z] : List Nat).map fun (x : Nat) => Value.int .u32 (x : Int)) rfl (by simp) (news_ws (k := 1) (l := [z]) (by simp) HWS.out) one_words (by omega) (by simp only [maxLen]; omega) (by omega) (by omega) _ rfl ?_; intro g cap2 w3 hown hgrow hat hlt3)
   have hw3 : ∀ y ∈ S ++ [z], y < 4294967296 := words_snoc HB.out.2 et
   have e : wv (S ++ [z]) = wv S ++ ([z] : List Nat).map fun (x : Nat) => Value.int .u32 (x : Int) := by simp [wv]
   have hO3 := HO2.out.grown hgrow hO2s HOB.out
   have hown' : w3.ownsRow w.heap.size 83 1 (.slice (some ⟨g, 0, none⟩) (k + 1) cap2) (S ++ [z]).length (wv (S ++ [z])) := by rw [e, List.length_append, HS.out]; exact hown
   go_roundw
   case rel =>
    refine ⟨k + 1, S ++ [z], r2, by omega, by go_num, rfl, hr2l, by simp [HS.out], ?_, ⟨hown', hw3⟩, hO3⟩
    have hq1 : s / 4294967296 ≤ 1 := by omega
    rw [val_snoc, HS.out, H1.out, H2.out, BB_succ, HZ.out, HR2.out, HQ.out]
    exact sub_turn HV.out HSS.out hq1
   case measure =>
    simp [intOf]
    omega
  ·have h1i : ¬ (k : Int) < (la.length : Int) := by omega
   obtain rfl : k = la.length := by omega
   have hvS := val_lt hb.2
   rw [hS] at hvS
   rw [List.take_length, List.take_of_length_le hmn] at hv
   have hle := HLE.out
   have hr0 : r = 0 := by
    rcases Nat.eq_zero_or_pos r with h | h
    ·exact h
    ·obtain rfl : r = 1 := by omega
     omega
   subst hr0
   have hv2 : val S = val la - val lb := by omega
   have hws := hb.1
   have hwsS : WS wr O S := OwnR.ws (c := cap) (by rw [hS]; exact hb)
   have hcap : S.length ≤ cap := by
    exact m0083c
   have hT := trim_wsp w wr O cap S _ (by omega) hcap hwsS hv2 hO
   rw [hS] at hT
   have HT := Hi hT
   clear hT hws hwsS hv hv2 hb hle hvS hS
   go_wp2_with fail
   refine HT.out.mono ?_
   exact mbad0a
theorem unshift_step {x y D P M : Nat} (hB : P * M = 4294967296) (hP : 0 < P) (hx : x < 4294967296) (hy : y = D % 4294967296) :
  ((x + 4294967296 * y) / P) % 4294967296 + 4294967296 * (D / P) = (x + 4294967296 * D) / P := by
 have e1 : ∀ z, (x + 4294967296 * z) / P = x / P + M * z := fun z => by
  rw [← hB, Nat.mul_assoc, Nat.add_mul_div_left _ _ hP]
 rw [e1, e1]
 have hd : P ∣ 4294967296 := ⟨M, hB.symm⟩
 have hyP : y % P = D % P := by rw [hy, Nat.mod_mod_of_dvd _ hd]
 have h1 : x / P < M := Nat.div_lt_of_lt_mul (by rw [hB]; exact hx)
 have h2 := Nat.mod_lt D hP
 have h3 : M * (D % P) + M ≤ 4294967296 := by
  have := Nat.mul_le_mul_left M (show D % P + 1 ≤ P from h2)
  rw [Nat.mul_add, Nat.mul_one, Nat.mul_comm M P, hB] at this
  exact this
 have f : ∀ z, M * z = 4294967296 * (z / P) + M * (z % P) := fun z => by
  have := congrArg (fun t => M * t) (Nat.div_add_mod z P)
  simp only [Nat.mul_add] at this
  rw [← Nat.mul_assoc, Nat.mul_comm M P, hB] at this
  exact this.symm
 rw [f y, f D, hyP]
 generalize M * (D % P) = b at *
 generalize x / P = a at *
 generalize y / P = q at *
 generalize D / P = q2 at *
 omega
theorem gd_drop_mod (l : List Nat) (k : Nat) (h : ∀ x ∈ l, x < 4294967296) : gd l k = val (l.drop k) % 4294967296 := by
 rcases Nat.lt_or_ge k l.length with hk | hk
 ·rw [val_drop_cons l hk]
  have := getD_lt h k
  omega
 ·rw [gd_end hk, List.drop_eq_nil_of_le hk]; rfl
theorem Runshifted_any (A : Option Addr) (n c : Nat) (la : List Nat) (p : Nat) (w : World) (hn : la.length = n) (hn2 : n ≤ 1000000) (hp : p < 32) (hA : WS w A la) :
  Calls Tryz.prog 150 #[.slice A n c, .int .i64 (p : Int)] w (WsP w (val la / 2 ^ p)) := by
 subst hn
 obtain ⟨i0, hi0, hz0, hz1, hz2⟩ := info_v
 have HW0 := Hi (fun (k : Nat) (hk : k ≤ 2000000) W h => Rword_any A la.length c (k : Int) la W rfl (by omega) (by omega) (by omega) h)
 obtain ⟨P, hP⟩ : ∃ P, P = 2 ^ p := ⟨_, rfl⟩
 have HPM : Hid (P * 2 ^ (32 - p) = 4294967296) := Hi (by rw [hP, ← Nat.pow_add, show p + (32 - p) = 32 from by omega])
 have hP0 : 0 < P := by rw [hP]; exact Nat.two_pow_pos p
 rw [← hP]
 have HP := Hi hP
 clear hP
 go_enter Tryz.func150, Tryz.ntmps150
 go_wp2_with fail
 go_loopw [5, 6] (fun ov iv wr => ∃ (k : Nat) (S : List Nat), k ≤ la.length ∧ iv = .int .i64 (k : Int) ∧ S.length = k ∧ val S + BB k * (val (la.drop k) / P) = val la / P ∧ OwnR w.heap.size wr ov S ∧ Below w.heap.size w wr) (fun _ iv _ => la.length - (intOf iv).toNat)
 case atStart => exact ⟨0, [], Nat.zero_le _, rfl, rfl, by simp [val, BB], OwnR.nil _ _, b0 _⟩
 case round =>
  obtain ⟨k, S, hk, rfl, hS, hv, hb, hO⟩ := hrel
  obtain ⟨O, cap, rfl⟩ := hb.slice
  rw [hS] at hb ⊢
  by_cases hlt : k < la.length
  ·have hx : gd la k < 4294967296 := getD_lt hA.1 k
   have hy : gd la (k + 1) < 4294967296 := getD_lt hA.1 (k + 1)
   have HD := Hi (val_drop_cons la hlt)
   have HY0 := Hi (gd_drop_mod la (k + 1) hA.1)
   have HX := Hi (HW0.out k (by omega))
   have HY := Hi (HW0.out (k + 1) (by omega))
   rw [Int.toNat_natCast] at HX HY
   generalize gd la k = x at *
   generalize gd la (k + 1) = y at *
   obtain ⟨T, hT⟩ : ∃ T, T = x + 4294967296 * y := ⟨_, rfl⟩
   have hTl : T < 18446744073709551616 := by omega
   have hor : bits BinOp.or IntKind.u64 (x : Int) ((y : Int) * 4294967296) = (T : Int) := by rw [hT]; exact or64 x y hx hy
   obtain ⟨s, hs⟩ : ∃ s, s = T / P := ⟨_, rfl⟩
   have hsl : s < 18446744073709551616 := by rw [hs]; exact Nat.lt_of_le_of_lt (Nat.div_le_self _ _) hTl
   have hsi : (T : Int) / 2 ^ p = (s : Int) := by rw [hs, HP.out]; simp
   obtain ⟨z, hz⟩ : ∃ z, z = s % 4294967296 := ⟨_, rfl⟩
   have et : z < 4294967296 := by omega
   have hzi : (s : Int) % 4294967296 = (z : Int) := by omega
   have HZ := Hi hz
   have HSS := Hi hs
   have HTT := Hi hT
   clear hz hs hT
   have hone : Blk (wr.alloc (.cells #[.int .u32 (z : Int)] 83)) wr.heap.size [z] := Blk.new wr [z] (by simpa using et)
   have hws := hone.ws (o := 0) (n := 1) (by simp)
   rw [List.drop_zero, show List.take 1 [z] = [z] from rfl] at hws
   have hb2 := hb.below (ba (b0 wr) (.cells #[.int .u32 (z : Int)] 83))
   have hrow := hb2.1
   rw [hS] at hrow
   have hob := own_block_le hb
   have hO2 := ba hO (.cells #[.int .u32 (z : Int)] 83)
   have hO2s := hO2.size
   have HROW := Hi hrow
   have HWS := Hi hws
   have HOB := Hi hob
   have HO2 := Hi hO2
   have HS := Hi hS
   have HV := Hi hv
   have HB := Hi hb
   clear hS hv hb hrow hws hone hob hO2 hb2
   have h1i : (k : Int) < (la.length : Int) := by omega
   clear hlt hk
   go_wp2_with fail
   refine (HX.out _ (hA.below hO)).mono ?_
   rintro _ w1 ⟨rfl, rfl⟩
   go_wp2_with fail
   refine (HY.out _ (hA.below hO)).mono ?_
   rintro _ w1 ⟨rfl, rfl⟩
   go_wp2_with (at_builtin; refine wpList_append_lies _ rfl (.tmp 13) (.tmp 26) _ rfl w.heap.size 83 i0 _ 1 4 Tryz.underlying22 hi0 hz0 hz1 hz2 rfl (by omega) (.slice O k cap) k (wv S) rfl HROW.out ⟨wr.heap.size, 0, none⟩ 1 1 (([z] : List Nat).map fun (x : Nat) => Value.int .u32 (x : Int)) rfl (by simp) (news_ws (k := 1) (l := [z]) (by simp) HWS.out) one_words (by omega) (by simp only [maxLen]; omega) (by omega) (by omega) _ rfl ?_; intro g cap2 w3 hown hgrow hat hlt3)
   have hw3 : ∀ y ∈ S ++ [z], y < 4294967296 := words_snoc HB.out.2 et
   have e : wv (S ++ [z]) = wv S ++ ([z] : List Nat).map fun (x : Nat) => Value.int .u32 (x : Int) := by simp [wv]
   have hO3 := HO2.out.grown hgrow hO2s HOB.out
   have hown' : w3.ownsRow w.heap.size 83 1 (.slice (some ⟨g, 0, none⟩) (k + 1) cap2) (S ++ [z]).length (wv (S ++ [z])) := by rw [e, List.length_append, HS.out]; exact hown
   go_roundw
   case rel =>
    refine ⟨k + 1, S ++ [z], by omega, by go_num, by simp [HS.out], ?_, ⟨hown', hw3⟩, hO3⟩
    have h1 := unshift_step HPM.out hP0 hx HY0.out
    rw [← HTT.out, ← HSS.out, ← HZ.out, ← HD.out] at h1
    rw [← HV.out, ← h1, val_snoc, HS.out, BB_succ, Nat.mul_add, Nat.mul_assoc]
    omega
   case measure =>
    simp [intOf]
    omega
  ·have h1i : ¬ (k : Int) < (la.length : Int) := by omega
   obtain rfl : k = la.length := by omega
   rw [List.drop_length, show val [] = 0 from rfl, Nat.zero_div, Nat.mul_zero, Nat.add_zero] at hv
   have hwsS : WS wr O S := OwnR.ws (c := cap) (by rw [hS]; exact hb)
   have hcap : S.length ≤ cap := by
    exact m0083c
   have hT := trim_wsp w wr O cap S _ (by omega) hcap hwsS hv hO
   rw [hS] at hT
   have HT := Hi hT
   clear hT hwsS hv hb hS
   go_wp2_with fail
   refine HT.out.mono ?_
   exact mbad0a
open Go.RowKit Go.Shelf
variable {A' D N base g k n : Nat} {L Q l : List Nat} {W : World}
def WsP2 (a : World) (N M : Nat) (e : Ending) (w' : World) : Prop :=
 ∃ A c l B d k, e = .returned (.tuple #[.slice A l.length c, .slice B k.length d]) ∧ l.length ≤ c ∧ k.length ≤ d ∧ WS w' A l ∧ WS w' B k ∧ Top l ∧ Top k ∧ val l = N ∧ val k = M ∧ Below a.heap.size a w'
theorem seg_front' (l : List Nat) {j : Nat} (h : j < l.length) : seg l j (l.length - j) = gd l j :: seg l (j + 1) (l.length - (j + 1)) := by
 unfold seg
 rw [List.drop_eq_getElem_cons h, show l.length - j = (l.length - (j + 1)) + 1 from by omega, List.take_succ_cons, ← gd_at h]
theorem zer_set' (j : Nat) (Q : Nat) (S : List Nat) : (zer (j + 1) ++ S).set j Q = zer j ++ (Q :: S) := by
 have e : zer (j + 1) = zer j ++ [0] := zer_append j 1
 rw [e, List.append_assoc, List.set_append_right _ _ (by rw [zer_length]; exact Nat.le_refl _), zer_length, Nat.sub_self]
 rfl
theorem top_take {S l' : List Nat} (hl : l' = S.take k) (hk : k ≤ S.length) (h : 0 < k → gd S (k - 1) ≠ 0) : Top l' := by
 intro h0
 have e : l'.length = k := by rw [hl, List.length_take]; omega
 rw [e, hl, gd_take (by omega)]
 exact h (by omega)
theorem RbyWord_any (A : Option Addr) (n c : Nat) (l : List Nat) (y : Nat) (w : World) (hn : l.length = n) (hm : n ≤ 1000000) (hy0 : 0 < y) (hy : y < 4294967296) (hA : WS w A l) :
  Calls Tryz.prog 146 #[.slice A n c, .int .u64 (y : Int)] w (WsP2 w (val l / y) (val l % y)) := by
 subst hn
 have hy1 : ((y : Int) == 0) = false := beq_eq_false_iff_ne.2 (by omega)
 have hmk := run_mk (l.length : Int) l.length rfl (by omega) w
 have ho := hA.off (Nat.le_refl _)
 go_enter Tryz.func146, Tryz.ntmps146
 go_wp2_with fail
 go_loopw [6, 7] (fun rv iv wr => ∃ (j : Nat) (S : List Nat) (r : Nat), j ≤ l.length ∧ iv = .int .i64 ((j : Int) - 1) ∧ rv = .int .u64 (r : Int) ∧ r < y ∧ S.length = l.length - j ∧ Hid (val (seg l j (l.length - j)) = val S * y + r) ∧ Blk wr w.heap.size (zer j ++ S) ∧ Only w.heap.size w wr) (fun _ iv _ => (intOf iv + 1).toNat)
 case atStart => exact ⟨l.length, [], 0, Nat.le_refl _, rfl, rfl, hy0, by simp, Hi (by simp [seg_zero, val]), by rw [List.append_nil]; exact Blk.new w _ (zer_lt _), Only.mono (ba (b0 _) _)⟩
 case round =>
  obtain ⟨j, S, r, hj, rfl, rfl, hr, hS, hv, hb, hO⟩ := hrel
  rcases Nat.eq_zero_or_pos j with rfl | hj0
  ·have hvS : val l = val S * y + r := by
    have := hv.out
    unfold seg at this
    rwa [List.drop_zero, Nat.sub_zero, List.take_length] at this
   have hq : val S = val l / y := by rw [hvS, Nat.mul_comm, Nat.mul_add_div hy0, Nat.div_eq_of_lt hr, Nat.add_zero]
   have hr2 : r = val l % y := by rw [hvS, Nat.mul_comm, Nat.mul_add_mod, Nat.mod_eq_of_lt hr]
   rw [show zer 0 = [] from rfl, List.nil_append] at hb
   have hSl : S.length = l.length := by omega
   have hwsS := hb.ws (o := 0) (n := l.length) (by omega)
   rw [List.drop_zero, ← hSl, List.take_length] at hwsS
   have hTR := Rtrim_any (some ⟨w.heap.size, 0, none⟩) S.length l.length S wr rfl (by omega) (by omega) hwsS
   rw [hSl] at hTR
   have hrl : r < 4294967296 := by omega
   have hone : Blk (wr.alloc (.cells #[.int .u32 (r : Int)] 83)) wr.heap.size [r] := Blk.new wr [r] (by simpa using hrl)
   have hw1 := hone.ws (o := 0) (n := 1) (by simp)
   rw [List.drop_zero, show List.take 1 [r] = [r] from rfl] at hw1
   have hT1 := Rtrim_any (some ⟨wr.heap.size, 0, none⟩) 1 1 [r] _ rfl (by decide) (Nat.le_refl _) hw1
   have HTR := Hi hTR
   have HT1 := Hi hT1
   have HQ := Hi hq
   have HR := Hi hr2
   have HW1 := Hi hw1
   have HWS := Hi hwsS
   have HSL := Hi hSl
   clear hTR hT1 hq hr2 hw1 hwsS hSl hone hb hvS hS hmk
   go_wp2_with fail
   refine HTR.out.mono ?_
   rintro e2 w4 ⟨⟨k', hk', rfl, ht1, ht2⟩, rfl⟩
   go_wp2_with fail
   refine HT1.out.mono ?_
   rintro e2 w4 ⟨⟨k2, hk2, rfl, ht3, ht4⟩, rfl⟩
   obtain ⟨l1, hl1⟩ : ∃ l', l' = S.take k' := ⟨_, rfl⟩
   obtain ⟨l2, hl2⟩ : ∃ l', l' = [r].take k2 := ⟨_, rfl⟩
   have e1 : k' = l1.length := by rw [hl1, List.length_take, HSL.out]; omega
   have e2 : k2 = l2.length := by rw [hl2, List.length_take]; simp; omega
   have hT1 := top_take hl1 (by rw [HSL.out]; omega) ht1
   have hT2 := top_take hl2 (by simpa using hk2) ht3
   have hv1 : val l1 = val l / y := by rw [hl1, val_take_top S k' ht2, HQ.out]
   have hv2 : val l2 = val l % y := by rw [hl2, val_take_top [r] k2 ht4, ← HR.out]; simp [val]
   have hws1 : WS wr (some ⟨w.heap.size, 0, none⟩) l1 := by rw [hl1]; exact HWS.out.take k'
   have hws2 : WS (wr.alloc (.cells #[.int .u32 (r : Int)] 83)) (some ⟨wr.heap.size, 0, none⟩) l2 := by rw [hl2]; exact HW1.out.take k2
   have FIN : Hid (WsP2 w (val l / y) (val l % y) (.returned (.tuple #[.slice (some ⟨w.heap.size, 0, none⟩) k' l.length, .slice (some ⟨wr.heap.size, 0, none⟩) k2 1])) (wr.alloc (.cells #[.int .u32 (r : Int)] 83))) :=
    Hi ⟨_, _, l1, _, _, l2, by rw [e1, e2], by omega, by omega, hws1.below (ba (b0 _) _), hws2, hT1, hT2, hv1, hv2, ba (bo (b0 w) hO (Nat.le_refl _)) _⟩
   clear hl1 hl2 e1 e2 hT1 hT2 hv1 hv2 hws1 hws2 ht1 ht2 ht3 ht4
   go_wp2_with fail
   go_ret2
   exact FIN.out
  ·obtain ⟨j', rfl⟩ : ∃ j', j = j' + 1 := ⟨j - 1, by omega⟩
   have hwsn := hA.only hO ho
   obtain ⟨bb, off, rfl, h8, h9⟩ := hwsn.at_ (by omega)
   have hc1 := ws_cell hwsn (show j' < l.length by omega)
   have hx := hwsn.lt j'
   have hlen : (zer (j' + 1) ++ S).length = l.length := by rw [List.length_append, zer_length]; omega
   have hc2 := hb.cell (i := j') (by omega)
   have hf2 := hb.free j'
   have HSEG := Hi (seg_front' l (show j' < l.length by omega))
   clear h8 h9
   generalize gd l j' = x at *
   generalize gd (zer (j' + 1) ++ S) j' = yy at *
   obtain ⟨T, hT⟩ : ∃ T, T = x + 4294967296 * r := ⟨_, rfl⟩
   have hor : bits BinOp.or IntKind.u64 ((r : Int) * 4294967296) (x : Int) = (T : Int) := by rw [hT]; exact or64' x r hx (by omega)
   obtain ⟨Q, hQ⟩ : ∃ Q, Q = T / y := ⟨_, rfl⟩
   obtain ⟨R, hR⟩ : ∃ R, R = T % y := ⟨_, rfl⟩
   have hTQ : T = y * Q + R := by rw [hQ, hR]; exact (Nat.div_add_mod T y).symm
   have hRy : R < y := by rw [hR]; exact Nat.mod_lt _ hy0
   have hQl : Q < 4294967296 := by rw [hQ]; exact Nat.div_lt_of_lt_mul (by
    have := Nat.mul_le_mul_left 4294967296 (show r + 1 ≤ y from hr)
    rw [hT, Nat.mul_comm y 4294967296]; omega)
   have hd1 : (T : Int) / (y : Int) = (Q : Int) := by rw [hQ]; simp
   have hd2 : (T : Int).tdiv (y : Int) = (Q : Int) := by rw [Int.tdiv_eq_ediv_of_nonneg (by omega)]; exact hd1
   have hm1 : (T : Int) % (y : Int) = (R : Int) := by rw [hR]; simp
   have hm2 : (T : Int).tmod (y : Int) = (R : Int) := by rw [Int.tmod_eq_emod_of_nonneg (by omega)]; exact hm1
   have hTl : T < 18446744073709551616 := by omega
   have HT := Hi hT
   have HTQ := Hi hTQ
   have HS := Hi hS
   have HB3 := Hi hb
   clear hT hTQ hQ hR hS hb hwsn hlen hmk
   go_wp2_with fail
   go_roundw
   case rel =>
    refine ⟨j', Q :: S, R, by omega, rfl, rfl, hRy, by simp [HS.out]; omega, ?_, ?_, hO.set_ (.inl rfl) _⟩
    ·refine Hi ?_
     rw [HSEG.out]
     simp only [val]
     rw [hv.out]
     exact short_step HT.out HTQ.out
    ·have h := HB3.out.set_ (i := j') hQl
     rw [zer_set'] at h
     have em : ((Q : Int) % 4294967296) = (Q : Int) := by omega
     first | exact h | (rw [em]; exact h)
   case measure => simp [intOf]
theorem words_drop (h : ∀ x ∈ l, x < 4294967296) (j : Nat) : ∀ x ∈ l.drop j, x < 4294967296 := fun x hx => h x (List.mem_of_mem_drop hx)
theorem l_seg (h : ∀ x ∈ l, x < 4294967296) (j n : Nat) : ∀ x ∈ seg l j n, x < 4294967296 := fun x hx => h x (List.mem_of_mem_drop (List.mem_of_mem_take hx))
theorem and_mask (p : Nat) (hp : p < 18446744073709551616) : bits BinOp.and IntKind.u64 (p : Int) 4294967295 = ((p % 4294967296 : Nat) : Int) := by
 have h := u64_and_nat p 4294967295 hp (by omega)
 have h2 := Nat.and_two_pow_sub_one_eq_mod p 32
 rw [show (2 ^ 32 - 1 : Nat) = 4294967295 from rfl, show (2 ^ 32 : Nat) = 4294967296 from rfl] at h2
 rw [h2] at h
 exact h
theorem OwnR.only' {W W' : World} {v : Value} {q : Nat} (h : OwnR base W v l) (hO : Only q W W') (hq : ∀ k, v.ownBlock = some k → k ≠ q) : OwnR base W' v l :=
 ⟨h.1.kept hO (by
  cases hv : v.ownBlock with
  | none => exact .inl rfl
  | some k => exact .inr (fun e => hq k hv (by injection e))), h.2⟩
theorem OwnR.cells {g n cap : Nat} (h : OwnR base W (.slice (some ⟨g, 0, none⟩) n cap) l) (h0 : 0 < l.length) : n = l.length ∧ base ≤ g ∧ g < W.heap.size ∧ l.length ≤ cap ∧ (∀ j, j < l.length → W.cell? ⟨g, j, none⟩ = some (.int .u32 ((gd l j : Nat) : Int))) ∧ ∀ i, W.frozen? ⟨g, i, none⟩ = false := by
 obtain ⟨g', cap', e, h1, h2, h3, h4, h5, h6⟩ := h.some_ h0
 injection e with e1 e2 e3
 injection e1 with e1
 injection e1 with e1
 subst e1 e3
 exact ⟨e2, h1, h2, h3, fun j hj => by have := ws_cell h4 hj; simpa using this, h6⟩
structure DvI (D A' K n N : Nat) (Q L : List Nat) : Prop where
 zero : ∀ j, j < K → gd Q j = 0
 eq : val Q * D + val L = A'
 low : val (L.drop K) < D
 ql : Q.length = N - n
 ll : L.length = N
 kn : K + n ≤ N
theorem DvI.start {D A' n m : Nat} (hn : 2 ≤ n) (hm : n ≤ m) (hl : l.length = m) (hw : ∀ x ∈ l, x < 4294967296) (hv : val l = A') (hD : BB (n - 1) ≤ D) : DvI D A' (m + 2 - n) n (m + 2) (zer (m + 2 - n)) (l ++ [0, 0]) := by
 refine ⟨fun j hj => ?_, ?_, ?_, by rw [zer_length], by rw [List.length_append, hl]; rfl, by omega⟩
 ·unfold gd zer
  rw [List.getD_eq_getElem?_getD, List.getElem?_replicate]
  split <;> rfl
 ·rw [val_zer, Nat.zero_mul, Nat.zero_add, val_append, hv]; simp [val]
 ·rw [List.drop_append_of_le_length (by omega), val_append, show val [0, 0] = 0 from by simp [val], Nat.mul_zero, Nat.add_zero]
  have h1 := val_lt (words_drop hw (m + 2 - n))
  rw [List.length_drop, hl] at h1
  have h2 : BB (m - (m + 2 - n)) ≤ BB (n - 1) := Nat.pow_le_pow_right (by decide) (by omega)
  omega
theorem DvI.step {Q L T : List Nat} (h : DvI D A' (k + 1) n N Q L) (hD : D < BB n) (hn : 1 ≤ n) (hT : T.length = n + 1) (hW : val T + g * D = val (seg L k (n + 1))) (hWD : val T < D) : DvI D A' k n N (Q.set k g) (spl L k T) := by
 have hkn := h.kn
 have hkl : k + n < L.length := by rw [h.ll]; omega
 obtain ⟨h1, h2⟩ := dv_round hD hkl hT h.eq h.low hW hWD (by rw [h.ql]; omega) (h.zero k (by omega))
 refine ⟨fun j hj => ?_, h1, h2, by rw [List.length_set]; exact h.ql, by rw [spl_length (by omega)]; exact h.ll, by omega⟩
 unfold gd
 rw [List.getD_eq_getElem?_getD, List.getElem?_set_ne (by omega), ← List.getD_eq_getElem?_getD]
 exact h.zero j (by omega)
theorem dv_top {D A' k n N dt : Nat} (h : DvI D A' (k + 1) n N Q L) (hw : ∀ x ∈ L, x < 4294967296) (hn : 2 ≤ n) (hD : BB (n - 1) * dt ≤ D) (hDn : D < BB n) (hdt : 0 < dt) :
  val (seg L k (n + 1)) < 4294967296 * D ∧ val (seg L k (n + 1)) < ((gd L (k + n - 1) + 4294967296 * gd L (k + n)) / dt + 1) * D := by
 have hkn := h.kn
 have hkl : k + n < L.length := by rw [h.ll]; omega
 have hz := dv_hz hDn hkl h.low
 have h1 := val_drop_cons L (show k < L.length by omega)
 have h2 := val_seg_drop L k (n + 1) (by omega)
 rw [hz, Nat.mul_zero, Nat.add_zero] at h2
 have h3 := getD_lt hw k
 have h4 := h.low
 refine ⟨by omega, ?_⟩
 have h5 : val (seg L k (n + 1)) = val (seg L k (n - 1)) + BB (n - 1) * (gd L (k + n - 1) + 4294967296 * gd L (k + n)) := by
  rw [val_seg_succ L k (k := n) (by omega)]
  have h6 := val_seg_succ L k (k := n - 1) (by omega)
  rw [show n - 1 + 1 = n by omega, show k + (n - 1) = k + n - 1 by omega] at h6
  rw [h6, Nat.mul_add, ← Nat.mul_assoc, show BB n = BB (n - 1) * 4294967296 from by rw [← BB_succ, show n - 1 + 1 = n by omega]]
  omega
 refine dv_guess h5 ?_ hD ?_
 ·have := val_lt (l_seg hw k (n - 1))
  rw [seg_length (by omega)] at this
  exact this
 ·have := Nat.lt_mul_div_succ (gd L (k + n - 1) + 4294967296 * gd L (k + n)) hdt
  exact Nat.lt_of_lt_of_eq this (Nat.mul_comm _ _)
open Go.RowKit Go.Shelf
variable {L S T : List Nat} {i k : Nat}
theorem dv_norm {lb ld : List Nat} {n s : Nat} (hw : ∀ x ∈ lb, x < 4294967296) (tk : Top lb) (hwd : ∀ x ∈ ld, x < 4294967296) (td : Top ld) (hn : lb.length = n) (hn1 : 1 ≤ n) (hs : bl lb + s = 32 * n) (hv : val ld = val lb * 2 ^ s) :
  ld.length = n ∧ BB (n - 1) * gd ld (n - 1) ≤ val ld ∧ val ld < BB n ∧ 0 < gd ld (n - 1) ∧ BB (n - 1) ≤ val ld := by
 obtain ⟨h1, h2, h3, h4⟩ := bl_bound hw tk (by omega)
 have hhi : val ld < BB n := by
  have h5 := Nat.mul_lt_mul_of_pos_right h1 (Nat.two_pow_pos s)
  rw [← Nat.pow_add, hs, ← bb_pow2, ← hv] at h5
  exact h5
 have hlo : BB (n - 1) ≤ val ld := by
  have h5 := Nat.mul_le_mul_right (2 ^ s) h2
  rw [← Nat.pow_add, ← hv] at h5
  refine Nat.le_trans ?_ h5
  rw [bb_pow2]
  exact Nat.pow_le_pow_right (by decide) (by omega)
 have hl1 : ld.length ≤ n := top_len td hhi
 have hl2 : ld.length = n := by
  rcases Nat.lt_or_ge ld.length n with h | h
  ·have h5 := val_lt hwd
   have h6 : BB ld.length ≤ BB (n - 1) := Nat.pow_le_pow_right (by decide) (by omega)
   omega
  ·omega
 have h7 := val_take ld (k := n - 1) (by omega)
 rw [show n - 1 + 1 = ld.length by omega, List.take_length] at h7
 have h8 := td (by omega)
 rw [hl2] at h8
 exact ⟨hl2, by omega, hhi, by omega, hlo⟩
theorem ownR_of_blk {base : Nat} {W : World} {g : Nat} (hb : Blk W g L) (hg : base ≤ g) (hk : k ≤ L.length) (hL : L.length ≤ 4000000) : OwnR base W (.slice (some ⟨g, 0, none⟩) k L.length) (L.take k) := by
 have e : (L.take k).length = k := by rw [List.length_take]; omega
 refine ⟨?_, words_take hb.1 k⟩
 rw [e]
 refine ⟨by rw [wv_length, e, Nat.mul_one], .inr ⟨g, L.length, words L, rfl, hg, hb.2, hk, by simp only [maxLen]; omega, by simp [words], ?_⟩⟩
 simp [words, wv, List.map_take]
theorem spl_step {k i q : Nat} (hS : S.length = i) (hi : i < T.length) (hk : k + T.length ≤ L.length) : (spl L k (S ++ T.drop i)).set (k + i) q = spl L k ((S ++ [q]) ++ T.drop (i + 1)) := by
 have e0 : (S ++ T.drop i).length = T.length := by rw [List.length_append, List.length_drop]; omega
 have e3 : ((S ++ [q]) ++ T.drop (i + 1)).length = T.length := by rw [List.length_append, List.length_append, List.length_drop, List.length_singleton]; omega
 have e2 : (L.take k).length = k := by rw [List.length_take]; omega
 have e5 : T.drop i = T[i] :: T.drop (i + 1) := List.drop_eq_getElem_cons hi
 unfold spl
 rw [e0, e3, List.append_assoc, List.append_assoc (L.take k), List.set_append_right _ _ (by omega), e2, Nat.add_sub_cancel_left, List.append_assoc S, List.set_append_right _ _ (by omega), hS, Nat.sub_self, e5]
 simp only [List.cons_append, List.set_cons_zero, List.append_assoc, List.nil_append]
theorem spl_gd (hS : S.length = i) (hi : i < T.length) (hk : k + T.length ≤ L.length) : gd (spl L k (S ++ T.drop i)) (k + i) = gd T i := by
 have e2 : (L.take k).length = k := by rw [List.length_take]; omega
 unfold spl gd
 simp only [List.getD_eq_getElem?_getD]
 rw [List.append_assoc, List.getElem?_append_right (by omega), e2, List.append_assoc, List.getElem?_append_right (by omega), hS, List.getElem?_append_left (by rw [List.length_drop]; omega), List.getElem?_drop]
 congr 2
 omega
def GuessR (D U : Nat) (w0 : World) (gv : Value) (wx : World) : Prop := ∃ G : Nat, gv = .int .u64 (G : Int) ∧ G ≤ 4294967295 ∧ U < (G + 1) * D ∧ Below w0.heap.size w0 wx
theorem RdivWords_main (A B : Option Addr) (c d : Nat) (la lb : List Nat) (w : World) (hn2 : 2 ≤ lb.length) (hm : la.length ≤ 500000) (hml : lb.length ≤ 500000) (tl : Top la) (tk : Top lb) (hle : val lb ≤ val la) (hA : WS w A la) (hB : WS w B lb) :
  Calls Tryz.prog 91 #[.slice A la.length c, .slice B lb.length d] w (WsP2 w (val la / val lb) (val la % val lb)) := by
 obtain ⟨i0, hi0, hz0, hz1, hz2⟩ := info_v
 obtain ⟨n, hn⟩ : ∃ n, lb.length = n := ⟨_, rfl⟩
 have hbb := bl_bound hB.1 tk (by omega)
 obtain ⟨s, hs⟩ : ∃ s, bl lb + s = 32 * n := ⟨32 * n - bl lb, by omega⟩
 have hs32 : s < 32 := by omega
 have hsi : 32 * (n : Int) - (bl lb : Int) = (s : Int) := by omega
 have hsw : IntKind.i64.wrap (s : Int) = (s : Int) := IntWalk.i64_in _ ⟨by omega, by omega⟩
 have hnw : IntKind.i64.wrap (32 * (n : Int)) = 32 * (n : Int) := IntWalk.i64_in _ ⟨by omega, by omega⟩
 have hblN : bl lb ≤ 32 * n := by omega
 have HC : Hid (cmpN (val la) (val lb) = 0 ∨ cmpN (val la) (val lb) = 1) := Hi (by unfold cmpN; rw [if_neg (by omega)]; split <;> simp)
 obtain ⟨cv, hcv⟩ : ∃ cv, cv = cmpN (val la) (val lb) := ⟨_, rfl⟩
 have hcv0 : ¬ cv < 0 := by rw [hcv]; rcases HC.out with h | h <;> omega
 have HCV := Hi hcv
 have hn1 : ((n : Int) == 1) = false := beq_eq_false_iff_ne.2 (by omega)
 have HNORM : Hid (∀ ld : List Nat, (∀ x ∈ ld, x < 4294967296) → Top ld → val ld = val lb * 2 ^ s → ld.length = n ∧ BB (n - 1) * gd ld (n - 1) ≤ val ld ∧ val ld < BB n ∧ 0 < gd ld (n - 1) ∧ BB (n - 1) ≤ val ld) :=
  Hi (fun ld h1 h2 h3 => dv_norm hB.1 tk h1 h2 hn (by omega) hs h3)
 have HLE := Hi hle
 have HB := Hi hB
 have HA := Hi hA
 have HTL := Hi tl
 have HTK := Hi tk
 have hn2' : 2 ≤ n := by omega
 have hnl : n ≤ 500000 := by omega
 have HN := Hi hn
 have HS := Hi hs
 have hPpos : 0 < 2 ^ s := Nat.two_pow_pos s
 have hblb := RbitsOf_any B n d lb
 have HBL := Hi (fun W h => hblb W hn (by omega) h)
 rw [hn]
 clear hcv hle hA hB tl tk hn hn2 hml hs hbb hblb HC
 go_enter Tryz.func91, Tryz.ntmps91
 go_wp2_with fail
 refine (RcmpWords_any A B la.length c n d la lb _ rfl HN.out (by omega) (by omega) HTL.out HTK.out HA.out HB.out).mono ?_
 rintro e w1 ⟨rfl, hb1⟩
 rw [← HCV.out]
 go_wp2_with fail
 refine (HBL.out w1 (HB.out.below hb1)).mono ?_
 rintro e w1' ⟨rfl, rfl⟩
 go_wp2_with fail
 refine (Rshifted_any B n d lb s w1 HN.out (by omega) (by omega) (HB.out.below hb1)).mono ?_
 rintro e w2 ⟨g2, L2, k2, rfl, hk2, hL2, hB2, hg2, ht2, hv2, hb2⟩
 obtain ⟨ld, hld⟩ : ∃ ld, ld = L2.take k2 := ⟨_, rfl⟩
 have hwd2 := hB2.ws (o := 0) (n := k2) (by omega)
 rw [List.drop_zero, ← hld] at hwd2
 rw [← hld] at ht2 hv2
 obtain ⟨hld1, hld2, hld3, hld4, hld5⟩ := HNORM.out ld hwd2.1 ht2 hv2
 have hk2n : k2 = n := by rw [← hld1, hld, List.length_take]; omega
 subst hk2n
 have hg2l := hB2.lt
 have hb12 := bt hb1 hb2
 have HWD2 := Hi hwd2
 have HLD := Hi (And.intro hld1 (And.intro hld2 (And.intro hld3 (And.intro hld4 hld5))))
 have HV2 := Hi hv2
 clear hwd2 hld1 hld2 hld3 hld4 hld5 hv2 ht2 hld hB2 HNORM HBL
 go_wp2_with fail
 refine (Rshifted_any A la.length c la s w2 rfl (by omega) (by omega) (HA.out.below hb12)).mono ?_
 rintro e w3 ⟨g3, L3, m, rfl, hk3, hL3, hB3, hg3, ht3, hv3, hb3⟩
 have hrow3 := ownR_of_blk (base := w.heap.size) hB3 (by have := hb12.size; omega) hk3 hL3
 obtain ⟨l3, hl3⟩ : ∃ l3, l3 = L3.take m := ⟨_, rfl⟩
 rw [← hl3] at hrow3 ht3 hv3
 have hl3m : l3.length = m := by rw [hl3, List.length_take]; omega
 have hm3 : m ≤ 4000000 := by omega
 have hm500 : m ≤ 600000 := by
  have h1 : val l3 < BB (la.length + 1) := by
   have h2 := val_lt HA.out.1
   have h3 : 2 ^ s ≤ 4294967296 := Nat.pow_le_pow_right (n := 2) (by decide) (show s ≤ 32 by omega)
   rw [hv3, BB_succ]
   exact Nat.lt_of_lt_of_le (Nat.mul_lt_mul_of_pos_right h2 hPpos) (Nat.mul_le_mul_left _ h3)
  have := top_len ht3 h1
  omega
 have hnm : k2 ≤ m := by
  have h1 : val ld ≤ val l3 := by rw [HV2.out, hv3]; exact Nat.mul_le_mul_right _ HLE.out
  rcases Nat.lt_or_ge m k2 with h | h
  ·have h2 := val_lt hrow3.2
   rw [hl3m] at h2
   have h3 : BB m ≤ BB (k2 - 1) := Nat.pow_le_pow_right (by decide) (by omega)
   have h4 := HLD.out.2.2.2.2
   omega
  ·exact h
 have hlies := Blk.new w3 [0, 0] (by simp)
 have hws00 := hlies.ws (o := 0) (n := 2) (by simp)
 rw [List.drop_zero, show List.take 2 [0, 0] = [0, 0] from rfl] at hws00
 have hrow4 := hrow3.below (ba (b0 w3) (.cells #[.int .u32 0, .int .u32 0] 83))
 have HROW : Hid (World.ownsRow (w3.alloc (.cells #[.int .u32 0, .int .u32 0] 83)) w.heap.size 83 1 (.slice (some ⟨g3, 0, none⟩) m L3.length) m (wv l3)) := Hi (by
  have := hrow4.1
  rw [hl3m] at this
  exact this)
 have HWS : Hid (WS (w3.alloc (.cells #[.int .u32 0, .int .u32 0] 83)) (some ⟨w3.heap.size, 0, none⟩) [0, 0]) := Hi hws00
 have hb13 := bt hb12 hb3
 have hO2 := ba hb13 (.cells #[.int .u32 0, .int .u32 0] 83)
 have hO2s := hO2.size
 have HO2 := Hi hO2
 have HWD3 := Hi ((HWD2.out.below hb3).below (ba (b0 w3) (.cells #[.int .u32 0, .int .u32 0] 83)))
 have hg23 : g2 < w2.heap.size := hg2l
 have hg3l := hB3.lt
 have h23s := hb3.size
 have hwg2 : w.heap.size ≤ g2 := by have := hb1.size; omega
 have hwg3 : w.heap.size ≤ g3 := by have := hb12.size; omega
 have HV3 := Hi hv3
 have HL3M := Hi hl3m
 have HW3 := Hi hrow3.2
 have HK := Hi hnm
 obtain ⟨K0, hK0⟩ : ∃ K0, K0 = m + 2 - k2 := ⟨_, rfl⟩
 have hK0i : (m : Int) + 2 - (k2 : Int) = (K0 : Int) := by omega
 have hK0l : K0 ≤ 700000 := by omega
 have HK0 := Hi hK0
 clear hv3 hl3m hnm hK0 hrow3 hrow4 hws00 hlies hO2 hb13 hB3 hl3 ht3 HCV hk2 hL2 HWD2 hb1 hb2 hb3
 go_wp2_with (at_builtin; refine wpList_append_lies _ rfl (.tmp 46) (.tmp 47) _ rfl w.heap.size 83 i0 _ 1 4 Tryz.underlying22 hi0 hz0 hz1 hz2 rfl (by omega) (.slice (some ⟨g3, 0, none⟩) m L3.length) m (wv l3) rfl HROW.out ⟨w3.heap.size, 0, none⟩ 2 2 (([0, 0] : List Nat).map fun (x : Nat) => Value.int .u32 (x : Int)) rfl (by simp) (news_ws (k := 2) (l := [0, 0]) (by simp) HWS.out) one_words (by omega) (by simp only [maxLen]; omega) (by omega) (by omega) _ rfl ?_; intro g cap w4 hown hgrow hat hlt4)
 have hO4 := HO2.out.grown hgrow hO2s (fun q hq => by simp [Value.ownBlock] at hq; omega)
 have hw4 : ∀ y ∈ l3 ++ [0, 0], y < 4294967296 := words_snoc (S := l3 ++ [0]) (x := 0) (words_snoc HW3.out (by decide)) (by decide) |> (by simpa using ·)
 have hmk := run_mk (K0 : Int) K0 rfl (by omega) w4
 have hgb : w.heap.size ≤ g ∧ g < w4.heap.size ∧ g ≠ g2 := by
  refine ⟨?_, hlt4, ?_⟩
  ·rcases hat with h | h
   ·simp [Value.ownBlock] at h; omega
   ·rw [h, World.size_alloc]; omega
  ·rcases hat with h | h
   ·simp [Value.ownBlock] at h; omega
   ·rw [h, World.size_alloc]; omega
 have hg2w4 : g2 < w4.heap.size := by have := hgrow.size; rw [World.size_alloc] at this; omega
 have hwd4 : WS w4 (some ⟨g2, 0, none⟩) ld := by
  refine HWD3.out.only (g := g3) ?_ (fun _ b o e => by injection e with e; injection e with e; omega)
  exact hgrow
 have hown4 : OwnR w.heap.size w4 (.slice (some ⟨g, 0, none⟩) (m + 2) cap) (l3 ++ [0, 0]) := by
  refine ⟨?_, hw4⟩
  rw [List.length_append, HL3M.out, show wv (l3 ++ [0, 0]) = wv l3 ++ ([0, 0] : List Nat).map (fun (x : Nat) => Value.int .u32 (x : Int)) from by simp [wv]]
  exact hown
 obtain ⟨N, hN⟩ : ∃ N, N = m + 2 := ⟨_, rfl⟩
 have hDI : DvI (val ld) (val la * 2 ^ s) K0 k2 N (zer K0) (l3 ++ [0, 0]) := by
  have h := DvI.start (D := val ld) (A' := val la * 2 ^ s) hn2' HK.out HL3M.out HW3.out HV3.out HLD.out.2.2.2.2
  rw [← HK0.out, ← hN] at h
  exact h
 rw [← hN] at hown4 ⊢
 have hNl : N ≤ 700000 := by omega
 have hNKi : (N : Int) - (k2 : Int) = (K0 : Int) := by omega
 have HDI := Hi hDI
 have HOWN := Hi hown4
 have HWD := Hi hwd4
 obtain ⟨hgb1, hgb2, hgb3⟩ := hgb
 have hO4s := hO4.size
 clear hDI hown4 hwd4 hown hgrow hat hw4 hN HWS HROW HWD3 HO2 HW3 HL3M
 rw [hmk]
 go_wp2_with fail
 have hbQ0 := Blk.new w4 (zer K0) (zer_lt _)
 obtain ⟨w5, hw5⟩ : ∃ v, v = w4.alloc (.cells (words (zer K0)) 83) := ⟨_, rfl⟩
 have hb45 : Below w4.heap.size w4 w5 := by rw [hw5]; exact ba (b0 _) _
 rw [← hw5] at hbQ0 ⊢
 have HOWN5 := Hi (HOWN.out.below hb45)
 have HWD5 := Hi (HWD.out.below hb45)
 have HQ5 := Hi hbQ0
 have hb05 := bt hO4 hb45
 obtain ⟨gq, hgq⟩ : ∃ q, q = w4.heap.size := ⟨_, rfl⟩
 rw [← hgq] at HQ5 hgb2 hg2w4 hO4s ⊢
 clear hw5 hb45 HOWN HWD hbQ0 hmk hO4 hgq
 go_loopw [9] (fun kv wr => ∃ (K : Nat) (Q L : List Nat), kv = .int .i64 ((K : Int) - 1) ∧ Hid (DvI (val ld) (val la * 2 ^ s) K k2 N Q L) ∧ OwnR w.heap.size wr (.slice (some ⟨g, 0, none⟩) N cap) L ∧ Blk wr gq Q ∧ WS wr (some ⟨g2, 0, none⟩) ld ∧ Below w.heap.size w wr) (fun kv _ => (intOf kv + 1).toNat)
 case atStart => exact ⟨K0, zer K0, l3 ++ [0, 0], rfl, HDI, HOWN5.out, HQ5.out, HWD5.out, hb05⟩
 case round =>
  obtain ⟨K, Q, L, rfl, hI, hown, hbQ, hwd, hbl⟩ := hrel
  obtain ⟨wo, rfl⟩ : ∃ x : World, x = wr := ⟨_, rfl⟩
  have HOW := Hi hown
  have HBQ := Hi hbQ
  have HWL := Hi hwd
  have HBL := Hi hbl
  have hwos := hbl.size
  clear hown hbQ hwd hbl HDI HOWN5 HQ5 HWD5
  rcases Nat.eq_zero_or_pos K with rfl | hK0
  ·have hE := hI.out.eq
   have hlow := hI.out.low
   rw [List.drop_zero] at hlow
   have hD := HV2.out
   rw [hD] at hE hlow
   have hvb : 0 < val lb := val_pos HTK.out (by rw [HN.out]; omega)
   obtain ⟨hq1, hr1⟩ := dv_end hPpos hvb hE hlow
   have hql := hI.out.ql
   have hll := hI.out.ll
   have hqk : Q.length = K0 := by omega
   have hwsQ := HBQ.out.ws (o := 0) (n := K0) (by omega)
   rw [List.drop_zero, ← hqk, List.take_length] at hwsQ
   have hT1 := Rtrim_any (some ⟨gq, 0, none⟩) K0 K0 Q wo hqk (by omega) (Nat.le_refl _) hwsQ
   have hwsL : WS wo (some ⟨g, 0, none⟩) L := OwnR.ws (c := cap) (by rw [hll]; exact HOW.out)
   have hcap : N ≤ cap := by
    have h := HOW.out.cells (by omega)
    omega
   have hT2 := Rtrim_any (some ⟨g, 0, none⟩) N cap L wo hll (by omega) hcap hwsL
   have HT1 := Hi hT1
   have HT2 := Hi hT2
   have HWQ := Hi hwsQ
   have HWR := Hi hwsL
   have HQ1 := Hi hq1
   have HR1 := Hi hr1
   have HQK := Hi hqk
   have HLL := Hi hll
   clear hE hlow hD hvb hq1 hr1 hql hll hqk hwsQ hT1 hwsL hT2
   go_wp2_with fail
   refine HT1.out.mono ?_
   rintro e2 w8 ⟨⟨k', hk', rfl, ht1, ht2⟩, rfl⟩
   go_wp2_with fail
   refine HT2.out.mono ?_
   rintro e2 w8 ⟨⟨k3, hk3, rfl, ht3, ht4⟩, rfl⟩
   have e3 : (L.take k3).length = k3 := by rw [List.length_take, HLL.out]; omega
   have e1 : (Q.take k').length = k' := by rw [List.length_take, HQK.out]; omega
   have HUN := Hi (Runshifted_any (some ⟨g, 0, none⟩) k3 cap (L.take k3) s wo e3 (by omega) hs32 (HWR.out.take k3))
   have HE1 := Hi e1
   have HTQ := Hi (top_take (l' := Q.take k') rfl (by rw [HQK.out]; exact hk') ht1)
   have HVQ : Hid (val (Q.take k') = val la / val lb) := Hi (by rw [val_take_top Q k' ht2]; exact HQ1.out)
   have HVR : Hid (val (L.take k3) / 2 ^ s = val la % val lb) := Hi (by rw [val_take_top L k3 ht4, HR1.out]; exact Nat.mul_div_cancel _ hPpos)
   clear e1 e3 ht1 ht2 ht3 ht4
   go_wp2_with fail
   refine HUN.out.mono ?_
   rintro e2 w9 ⟨A9, c9, l9, rfl, hc9, hs9, ht9, hv9, hb9⟩
   have HV9 := Hi hv9
   clear hv9
   go_wp2_with fail
   go_ret2
   exact ⟨some ⟨gq, 0, none⟩, K0, Q.take k', A9, c9, l9, by rw [HE1.out]; rfl, by rw [HE1.out]; exact hk', hc9, (HWQ.out.take k').below hb9, hs9, HTQ.out, ht9, HVQ.out, HV9.out.trans HVR.out, bt HBL.out hb9⟩
  ·obtain ⟨k, rfl⟩ : ∃ k, K = k + 1 := ⟨K - 1, by omega⟩
   have hkn := hI.out.kn
   rw [show (((k + 1 : Nat) : Int) - 1) = (k : Int) from by omega]
   have hc := HOW.out.cells (by have := hI.out.ll; omega)
   obtain ⟨-, hc1, hc2, hc3, hc4, hc5⟩ := hc
   obtain ⟨j1, hj1⟩ : ∃ j, j = k + k2 := ⟨_, rfl⟩
   obtain ⟨j0, hj0⟩ : ∃ j, j + 1 = k + k2 := ⟨k + k2 - 1, by omega⟩
   obtain ⟨jn, hjn⟩ : ∃ j, j + 1 = k2 := ⟨k2 - 1, by omega⟩
   have hj1i : (k : Int) + (k2 : Int) = (j1 : Int) := by omega
   have hj0i : (j1 : Int) - 1 = (j0 : Int) := by omega
   have hjni : (k2 : Int) - 1 = (jn : Int) := by omega
   have hj1w : IntKind.i64.wrap (j1 : Int) = (j1 : Int) := IntWalk.i64_in _ ⟨by omega, by omega⟩
   have hj0w : IntKind.i64.wrap (j0 : Int) = (j0 : Int) := IntWalk.i64_in _ ⟨by omega, by omega⟩
   have hj1N : (j1 : Int) < (N : Int) := by omega
   have hj0N : (j0 : Int) < (N : Int) := by omega
   have hjnN : (jn : Int) < (k2 : Int) := by omega
   have hLl := hI.out.ll
   have hu1 := hc4 j1 (by omega)
   have hu0 := hc4 j0 (by omega)
   have hdc := ws_cell HWL.out (j := jn) (by have := HLD.out.1; omega)
   rw [Nat.zero_add] at hdc
   have hx1 := getD_lt HOW.out.2 j1
   have hx0 := getD_lt HOW.out.2 j0
   have hxd := getD_lt HWL.out.1 jn
   have htop := dv_top hI.out HOW.out.2 hn2' HLD.out.2.1 HLD.out.2.2.1 HLD.out.2.2.2.1
   have hdt0 := HLD.out.2.2.2.1
   rw [show k2 - 1 = jn by omega] at htop hdt0
   rw [show k + k2 - 1 = j0 by omega, ← hj1] at htop
   obtain ⟨U, hU⟩ : ∃ U, U = val (seg L k (k2 + 1)) := ⟨_, rfl⟩
   obtain ⟨D, hD⟩ : ∃ D, D = val ld := ⟨_, rfl⟩
   rw [← hU, ← hD] at htop
   obtain ⟨x1, hx1e⟩ : ∃ x, x = gd L j1 := ⟨_, rfl⟩
   obtain ⟨x0, hx0e⟩ : ∃ x, x = gd L j0 := ⟨_, rfl⟩
   obtain ⟨dt, hdte⟩ : ∃ x, x = gd ld jn := ⟨_, rfl⟩
   rw [← hx1e] at hu1 hx1 htop
   rw [← hx0e] at hu0 hx0 htop
   rw [← hdte] at hdc hxd htop hdt0
   obtain ⟨T, hT⟩ : ∃ T, T = x0 + 4294967296 * x1 := ⟨_, rfl⟩
   have hor : bits BinOp.or IntKind.u64 ((x1 : Int) * 4294967296) (x0 : Int) = (T : Int) := by rw [hT]; exact or64' x0 x1 hx0 hx1
   have hTl : T < 18446744073709551616 := by omega
   rw [← hT] at htop
   obtain ⟨g0, hg0⟩ : ∃ g0, g0 = T / dt := ⟨_, rfl⟩
   rw [← hg0] at htop
   have hg0l : g0 < 18446744073709551616 := by rw [hg0]; exact Nat.lt_of_le_of_lt (Nat.div_le_self _ _) hTl
   have hd0 : ((dt : Int) == 0) = false := beq_eq_false_iff_ne.2 (by omega)
   have hd1 : (T : Int) / (dt : Int) = (g0 : Int) := by rw [hg0]; simp
   have hd2 : (T : Int).tdiv (dt : Int) = (g0 : Int) := by rw [Int.tdiv_eq_ediv_of_nonneg (by omega)]; exact hd1
   have HTOP := Hi htop
   have HU := Hi hU
   have HD := Hi hD
   have HJ := Hi hj1
   have HLL := Hi hLl
   clear htop hU hD hx1e hx0e hdte hT hg0 hj1 hj0 hjn hc4 hc5 hLl
   go_wp2_with fail
   go_quiet (fail)
   go_upto_if 91 with (fail)
   go_cut [11] (fun gv wx => GuessR D U wo gv wx)
   case first =>
    by_cases hgt : (4294967295 : Int) < (g0 : Int)
    ·go_wp2_with fail
     go_meet
     exact ⟨4294967295, rfl, by omega, by rw [show 4294967295 + 1 = 4294967296 from rfl]; exact HTOP.out.1, bd (b0 _) _⟩
    ·go_wp2_with fail
     go_meet
     exact ⟨g0, rfl, by omega, HTOP.out.2, bd (b0 _) _⟩
   case rest =>
   obtain ⟨G, rfl, hG1, hGU, hbc⟩ := hcut
   obtain ⟨w6, hw6⟩ : ∃ v, v = wc := ⟨_, rfl⟩
   rw [← hw6] at hbc ⊢
   clear hw6 wc
   have HGU := Hi hGU
   have HOW6 := Hi (HOW.out.below hbc)
   have HBQ6 := Hi (HBQ.out.below hbc)
   have HWL6 := Hi (HWL.out.below hbc)
   have HBL6 := Hi (bt HBL.out hbc)
   have hbcs := hbc.size
   clear hGU hbc HOW HBQ HWL HBL hu1 hu0 hdc hx1 hx0 hxd hor hd0 hd1 hd2
   go_wp2_with fail
   have HW4 := Hi (fun (k : Nat) (hk : k ≤ 2000000) W h => Rword_any (some ⟨g2, 0, none⟩) k2 L2.length (k : Int) ld W HLD.out.1 (by omega) (by omega) (by omega) h)
   have hIs := hI.out
   have hkl : k + k2 < L.length := by rw [HLL.out]; omega
   have HKL := Hi hkl
   clear hIs hkl hkn
   go_loopw [12, 13, 14] (fun cv bv iv wr => ∃ (i : Nat) (T : List Nat) (bo ca : Nat), i ≤ k2 + 1 ∧ iv = .int .i64 (i : Int) ∧ cv = .int .u64 (ca : Int) ∧ bv = .int .u64 (bo : Int) ∧ bo ≤ 1 ∧ ca < 4294967296 ∧ (k2 < i → ca = 0) ∧ T.length = i ∧ (∀ y ∈ T, y < 4294967296) ∧ Hid (val T + G * val (ld.take i) = val (seg L k i) + BB i * (bo + ca)) ∧ OwnR w.heap.size wr (.slice (some ⟨g, 0, none⟩) N cap) (spl L k T) ∧ Only g w6 wr) (fun _ _ iv _ => k2 + 1 - (intOf iv).toNat)
   case atStart => exact ⟨0, [], 0, 0, Nat.zero_le _, rfl, rfl, rfl, by omega, by omega, fun _ => rfl, rfl, by simp, Hi (by simp [seg_zero, val]), by rw [spl_nil]; exact HOW6.out, only_refl _ _⟩
   case round =>
    obtain ⟨i, T, bo, ca, hi, rfl, rfl, rfl, hbo, hca, hca0, hTl, hTw, hv, hown, hO⟩ := hrel
    obtain ⟨wi, rfl⟩ : ∃ x : World, x = wr := ⟨_, rfl⟩
    by_cases hlt : i ≤ k2
    ·have hlti : (i : Int) ≤ (k2 : Int) := by omega
     have hwl := HWL6.out.only hO (fun _ b o e => by injection e with e; injection e with e; omega)
     have hx : gd ld i < 4294967296 := getD_lt hwl.1 i
     have HX := Hi (HW4.out i (by omega) wi hwl)
     rw [Int.toNat_natCast] at HX
     obtain ⟨j, hj⟩ : ∃ j, j = k + i := ⟨_, rfl⟩
     have hji : (k : Int) + (i : Int) = (j : Int) := by omega
     have hLLo := HLL.out
     have hKLo := HKL.out
     have hspl : (spl L k T).length = N := by rw [spl_length (by omega)]; exact hLLo
     have hc := hown.cells (by omega)
     obtain ⟨-, hc1, hc2, hc3, hc4, hc5⟩ := hc
     have hzc := hc4 j (by omega)
     rw [spl_get (by omega) (by omega)] at hzc
     have hzf := hc5 j
     have hz : gd L j < 4294967296 := by
      have := getD_lt hown.2 j
      rwa [spl_get (by omega) (by omega)] at this
     have hjN : (j : Int) < (N : Int) := by omega
     have hjw : IntKind.i64.wrap (j : Int) = (j : Int) := IntWalk.i64_in _ ⟨by omega, by omega⟩
     have H3 := Hi (val_take_any ld i)
     have H4 := Hi (val_seg_succ L k (k := i) (by omega))
     have hxn : k2 < i + 1 → gd ld i = 0 := fun h => gd_end (by have := HLD.out.1; omega)
     have HXN := Hi hxn
     rw [← hj] at H4
     generalize gd ld i = x at *
     generalize gd L j = z at *
     have hxg := Nat.mul_le_mul (Nat.le_of_lt_succ hx) hG1
     obtain ⟨xg, hxge⟩ : ∃ xg, xg = x * G := ⟨_, rfl⟩
     have hxgi : (x : Int) * (G : Int) = (xg : Int) := by rw [hxge]; simp
     rw [← hxge] at hxg
     obtain ⟨p, hp⟩ : ∃ p, p = xg + ca := ⟨_, rfl⟩
     have hpi : (xg : Int) + (ca : Int) = (p : Int) := by omega
     have hpl : p < 18446744073709551616 := by omega
     have hxgw : IntKind.u64.wrap (xg : Int) = (xg : Int) := IntWalk.u64_in _ ⟨by omega, by omega⟩
     have hpw : IntKind.u64.wrap (p : Int) = (p : Int) := IntWalk.u64_in _ ⟨by omega, by omega⟩
     obtain ⟨ca', hca'⟩ : ∃ q, q = p / 4294967296 := ⟨_, rfl⟩
     have hcai : (p : Int) / 4294967296 = (ca' : Int) := by omega
     obtain ⟨lo, hlo⟩ : ∃ q, q = p % 4294967296 := ⟨_, rfl⟩
     have hand := and_mask p hpl
     rw [← hlo] at hand
     have hlol : lo < 4294967296 := by omega
     obtain ⟨t, ht⟩ : ∃ t, t + lo + bo = z + 4294967296 := ⟨z + 4294967296 - lo - bo, by omega⟩
     have hti : (z : Int) + 4294967296 - (lo : Int) - (bo : Int) = (t : Int) := by omega
     have htl : t < 8589934592 := by omega
     have htw : IntKind.u64.wrap (t : Int) = (t : Int) := IntWalk.u64_in _ ⟨by omega, by omega⟩
     obtain ⟨q, hq⟩ : ∃ q, q = t % 4294967296 := ⟨_, rfl⟩
     have hqi : (t : Int) % 4294967296 = (q : Int) := by omega
     have hql : q < 4294967296 := by omega
     obtain ⟨tc, htc⟩ : ∃ q, q = t / 4294967296 := ⟨_, rfl⟩
     have htci : (t : Int) / 4294967296 = (tc : Int) := by omega
     obtain ⟨bo', hbo'⟩ : ∃ b, b = 1 - tc := ⟨_, rfl⟩
     have htcl : tc ≤ 1 := by omega
     have hboi : (1 : Int) - (tc : Int) = (bo' : Int) := by omega
     have hbol : bo' ≤ 1 := by omega
     have hca2 : ca' < 4294967296 := by omega
     have HT1 := Hi ht
     have HP := Hi (show p = x * G + ca by rw [hp, hxge])
     have HCA := Hi hca'
     have HLO := Hi hlo
     have HQ := Hi hq
     have HTC := Hi htc
     have HBO := Hi hbo'
     have HJ := Hi hj
     have HTL2 := Hi hTl
     have HOWN := Hi hown
     have HCA0 : Hid (k2 < i + 1 → ca' = 0) := Hi (fun h => by
      have h0 := HXN.out h
      subst h0
      have h9 := HP.out
      rw [Nat.zero_mul, Nat.zero_add] at h9
      omega)
     have hset := hown.set_ (i := j) (x := q) (by rw [hspl]; omega) hql
     rw [hj, ← hTl, spl_set _ (by omega), hTl, ← hj] at hset
     have HSET := Hi hset
     clear hxge hp hca' hlo ht hq htc hbo' hj hTl hown hset hspl hc1 hc2 hc3 hc4 hc5 hca0 hxn hLLo hKLo hxg
     go_wp2_with fail
     refine (HX.out).mono ?_
     rintro _ w1 ⟨rfl, rfl⟩
     go_wp2_with fail
     go_roundw
     case rel =>
      refine ⟨i + 1, T ++ [q], bo', ca', by omega, by go_num, rfl, rfl, hbol, hca2, HCA0.out, by simp [HTL2.out], words_snoc hTw hql, ?_, HSET.out, hO.set_ (.inl rfl) _⟩
      refine Hi ?_
      rw [val_snoc, HTL2.out, H3.out, H4.out, BB_succ, HQ.out, HBO.out, HTC.out, HCA.out]
      refine dv_sub hv.out HP.out ?_ ?_
      ·rw [← HLO.out]; exact HT1.out
      ·rw [← HTC.out]; exact htcl
     case measure => simp [intOf]; omega
    ·obtain rfl : i = k2 + 1 := by omega
     have hnlti : ¬ ((k2 + 1 : Nat) : Int) ≤ (k2 : Int) := by omega
     obtain rfl := hca0 (by omega)
     have hv1 := hv.out
     rw [Nat.add_zero, List.take_of_length_le (by rw [HLD.out.1]; omega), ← HU.out, ← HD.out] at hv1
     have HV1 := Hi hv1
     have HTL2 := Hi hTl
     have HOWN := Hi hown
     have hOs := hO.size
     clear hv1 hTl hown hca0 hv
     go_wp2_with fail
     go_loopw [11, 13] (fun gv bv wr => ∃ (G : Nat) (T : List Nat) (bo : Nat), gv = .int .u64 (G : Int) ∧ G ≤ 4294967295 ∧ bv = .int .u64 (bo : Int) ∧ bo ≤ 1 ∧ T.length = k2 + 1 ∧ (∀ y ∈ T, y < 4294967296) ∧ Hid (val T + G * D = U + BB (k2 + 1) * bo) ∧ Hid (U < (G + 1) * D) ∧ OwnR w.heap.size wr (.slice (some ⟨g, 0, none⟩) N cap) (spl L k T) ∧ Only g w6 wr) (fun gv _ _ => (intOf gv).toNat)
     case atStart => exact ⟨G, T, bo, rfl, hG1, rfl, hbo, HTL2.out, hTw, HV1, HGU, HOWN.out, hO⟩
     case round =>
      clear hO hOs hbo hTw HV1 HTL2 HOWN
      obtain ⟨G, T, bo, rfl, hG, rfl, hbo, hTl, hTw, hv, hgu, hown, hO⟩ := hrel
      obtain ⟨wi, rfl⟩ : ∃ x : World, x = wr := ⟨_, rfl⟩
      rcases Nat.eq_zero_or_pos bo with rfl | hb1
      ·have hv1 := hv.out
       rw [Nat.mul_zero, Nat.add_zero] at hv1
       have hTD : val T < D := by
        have := hgu.out
        rw [← hv1, Nat.add_mul, Nat.one_mul] at this
        omega
       have hstep := hI.out.step (g := G) (T := T) HLD.out.2.2.1 (by omega) hTl (by rw [← HD.out, ← HU.out]; exact hv1) (by rw [← HD.out]; exact hTD)
       have HSTEP := Hi hstep
       have hbQ := HBQ6.out.only hO (by omega)
       have hql := hI.out.ql
       have hkn := hI.out.kn
       have hkK : (k : Int) < (K0 : Int) := by omega
       have hGl : G < 4294967296 := by omega
       have hGi : (G : Int) % 4294967296 = (G : Int) := by omega
       have hqc := hbQ.cell (i := k) (by omega)
       have hqf := hbQ.free k
       have HBQ7 := Hi hbQ
       have hown2 := hown.only' (q := gq) (W' := wi.setCell ⟨gq, k, none⟩ (.int .u32 (G : Int))) ((only_refl gq wi).set_ (.inl rfl) _) (fun q hq => by simp [Value.ownBlock] at hq; omega)
       have hwl := HWL6.out.only hO (fun _ b o e => by injection e with e; injection e with e; omega)
       have hwl2 := hwl.only (g := gq) (w' := wi.setCell ⟨gq, k, none⟩ (.int .u32 (G : Int))) ((only_refl gq wi).set_ (.inl rfl) _) (fun _ b o e => by injection e with e; injection e with e; omega)
       have hbl2 : Below w.heap.size w (wi.setCell ⟨gq, k, none⟩ (.int .u32 (G : Int))) := bs (Go.Proofs.YtgljdfblgpdaaaaGreatDoor.bo HBL6.out hO hgb1) (by show w.heap.size ≤ gq; omega) _
       have HOWN7 := Hi hown2
       have HWL7 := Hi hwl2
       generalize gd Q k = qq at *
       clear hv1 hTD hstep hbQ hql hkn hown2 hwl hwl2 hown hTl
       go_wp2_with fail
       go_roundw
       case rel =>
        exact ⟨k, Q.set k G, spl L k T, rfl, HSTEP, HOWN7.out, HBQ7.out.set_ hGl, HWL7.out, hbl2⟩
       case measure => simp [intOf]
      ·obtain rfl : bo = 1 := by omega
       have hDpos : val T < BB (k2 + 1) := by have := val_lt hTw; rwa [hTl] at this
       have hG0 : 0 < G := by
        rcases Nat.eq_zero_or_pos G with h | h
        ·exfalso
         have := hv.out
         rw [h, Nat.zero_mul, Nat.mul_one] at this
         omega
        ·exact h
       obtain ⟨G', rfl⟩ : ∃ G', G = G' + 1 := ⟨G - 1, by omega⟩
       have HTL2 := Hi hTl
       have HOWN := Hi hown
       have HGL : Hid (U < (G' + 1) * D) := Hi (by
        have h1 := hv.out
        have h2 := hDpos
        rw [Nat.mul_one] at h1
        omega)
       have hGi : ((G' + 1 : Nat) : Int) - 1 = (G' : Int) := by omega
       clear hTl hown hDpos
       go_wp2_with fail
       go_loopw [12, 17] (fun cv iv wr => ∃ (i : Nat) (S : List Nat) (ca : Nat), i ≤ k2 + 1 ∧ iv = .int .i64 (i : Int) ∧ cv = .int .u64 (ca : Int) ∧ ca ≤ 1 ∧ S.length = i ∧ (∀ y ∈ S, y < 4294967296) ∧ Hid (val S + BB i * ca = val (T.take i) + val (ld.take i)) ∧ OwnR w.heap.size wr (.slice (some ⟨g, 0, none⟩) N cap) (spl L k (S ++ T.drop i)) ∧ Only g w6 wr) (fun _ iv _ => k2 + 1 - (intOf iv).toNat)
       case atStart => exact ⟨0, [], 0, Nat.zero_le _, rfl, rfl, by omega, rfl, by simp, Hi (by simp [val]), HOWN.out, hO⟩
       case round =>
        clear hO HOWN
        obtain ⟨i, S, ca, hi, rfl, rfl, hca, hSl, hSw, hvs, hown, hO⟩ := hrel
        obtain ⟨wj, rfl⟩ : ∃ x : World, x = wr := ⟨_, rfl⟩
        by_cases hlt : i ≤ k2
        ·have hlti : (i : Int) ≤ (k2 : Int) := by omega
         have hwl := HWL6.out.only hO (fun _ b o e => by injection e with e; injection e with e; omega)
         have hx : gd ld i < 4294967296 := getD_lt hwl.1 i
         have HX := Hi (HW4.out i (by omega) wj hwl)
         have HX2 := Hi (fun W h => HW4.out i (by omega) W h)
         rw [Int.toNat_natCast] at HX HX2
         have HWLJ := Hi hwl
         obtain ⟨j, hj⟩ : ∃ j, j = k + i := ⟨_, rfl⟩
         have hji : (k : Int) + (i : Int) = (j : Int) := by omega
         have hLLo := HLL.out
         have hKLo := HKL.out
         have hSTl : (S ++ T.drop i).length = k2 + 1 := by rw [List.length_append, List.length_drop, HTL2.out, hSl]; omega
         have hspl : (spl L k (S ++ T.drop i)).length = N := by rw [spl_length (by omega)]; exact hLLo
         have hc := hown.cells (by omega)
         obtain ⟨-, hc1, hc2, hc3, hc4, hc5⟩ := hc
         have hzc := hc4 j (by omega)
         have hgz : gd (spl L k (S ++ T.drop i)) j = gd T i := by rw [hj]; exact spl_gd hSl (by rw [HTL2.out]; omega) (by rw [HTL2.out]; omega)
         rw [hgz] at hzc
         have hzf := hc5 j
         have hz : gd T i < 4294967296 := getD_lt hTw i
         have hjN : (j : Int) < (N : Int) := by omega
         have hjw : IntKind.i64.wrap (j : Int) = (j : Int) := IntWalk.i64_in _ ⟨by omega, by omega⟩
         have H3 := Hi (val_take_any ld i)
         have H4 := Hi (val_take_any T i)
         generalize gd ld i = x at *
         generalize gd T i = z at *
         obtain ⟨zx, hzx⟩ : ∃ p, p = z + x := ⟨_, rfl⟩
         have hzxi : (z : Int) + (x : Int) = (zx : Int) := by omega
         obtain ⟨t, ht⟩ : ∃ t, t = zx + ca := ⟨_, rfl⟩
         have hti : (zx : Int) + (ca : Int) = (t : Int) := by omega
         have htl : t < 8589934592 := by omega
         have hzxw : IntKind.u64.wrap (zx : Int) = (zx : Int) := IntWalk.u64_in _ ⟨by omega, by omega⟩
         have htw : IntKind.u64.wrap (t : Int) = (t : Int) := IntWalk.u64_in _ ⟨by omega, by omega⟩
         obtain ⟨q, hq⟩ : ∃ q, q = t % 4294967296 := ⟨_, rfl⟩
         have hqi : (t : Int) % 4294967296 = (q : Int) := by omega
         have hql : q < 4294967296 := by omega
         obtain ⟨tc, htc⟩ : ∃ q, q = t / 4294967296 := ⟨_, rfl⟩
         have htci : (t : Int) / 4294967296 = (tc : Int) := by omega
         have htcl : tc ≤ 1 := by omega
         have HT1 := Hi (show t = z + x + ca by rw [ht, hzx])
         have HQ := Hi hq
         have HTC := Hi htc
         have HSL := Hi hSl
         have HKEY : Hid (∀ W, OwnR w.heap.size W (.slice (some ⟨g, 0, none⟩) N cap) (spl L k (S ++ T.drop i)) → OwnR w.heap.size (W.setCell ⟨g, j, none⟩ (.int .u32 (q : Int))) (.slice (some ⟨g, 0, none⟩) N cap) (spl L k ((S ++ [q]) ++ T.drop (i + 1)))) := Hi (fun W hW => by
          have h := hW.set_ (i := j) (x := q) (by rw [hspl]; omega) hql
          rwa [hj, spl_step hSl (by rw [HTL2.out]; omega) (by rw [HTL2.out]; omega), ← hj] at h)
         have HOWNJ := Hi hown
         clear hzx ht hq htc hj hSl hown hspl hgz hc1 hc2 hc3 hc4 hc5 hLLo hKLo hSTl hwl
         go_wp2_with fail
         go_quiet ((go_at_call 145; with_reducible exact quiet_w (HX2.out _ (HWLJ.out.below (bd (b0 _) _)))))
         go_wp2_with fail
         go_roundw
         case rel =>
          refine ⟨i + 1, S ++ [q], tc, by omega, by go_num, rfl, htcl, by simp [HSL.out], words_snoc hSw hql, ?_, HKEY.out _ (HOWNJ.out.below (bd (b0 _) _)), (hO.drw _).set_ (.inl rfl) _⟩
          refine Hi ?_
          rw [val_snoc, HSL.out, H4.out, H3.out, BB_succ, HQ.out, HTC.out]
          exact sum_turn hvs.out HT1.out
         case measure => simp [intOf]; omega
        ·obtain rfl : i = k2 + 1 := by omega
         have hnlti : ¬ ((k2 + 1 : Nat) : Int) ≤ (k2 : Int) := by omega
         have hv2 := hvs.out
         rw [List.take_of_length_le (by rw [HTL2.out]; exact Nat.le_refl _), List.take_of_length_le (by rw [HLD.out.1]; omega), ← HD.out] at hv2
         rw [List.drop_of_length_le (by rw [HTL2.out]; exact Nat.le_refl _), List.append_nil] at hown
         have hv1 := hv.out
         rw [Nat.mul_one] at hv1
         have HFIX := Hi (dv_fix hv1 hv2 hca)
         obtain ⟨b2, hb2⟩ : ∃ b, b = 1 - ca := ⟨_, rfl⟩
         have hb2i : (1 : Int) - (ca : Int) = (b2 : Int) := by omega
         have hb2l : b2 ≤ 1 := by omega
         rw [← hb2] at HFIX
         have HOWNJ := Hi hown
         have HSL := Hi hSl
         clear hv1 hv2 hvs hb2 hown hSl
         go_wp2_with fail
         go_roundw
         case rel => exact ⟨G', S, b2, rfl, by omega, rfl, hb2l, HSL.out, hSw, HFIX, HGL, HOWNJ.out, hO⟩
         case measure => simp [intOf]
open Go.RowKit Go.Shelf
theorem WRes.iv {w : World} {x z : Int} {e : Ending} {w' : World} (h : WRes w x e w') (hx : x = z) (hlt : Lt 2100 z) : RIV w z e w' := by
 obtain ⟨n, A, c, l, he, hc, hw, hB, hz, hb⟩ := h
 exact ⟨n, A, c, l, he, .of hc hw hB (hz.trans hx) hlt, hb⟩
theorem BB2_eq : BB 2 = 18446744073709551616 := by decide
theorem lt_two {z : Int} (h : z.natAbs < 18446744073709551616) : Lt 2 z := by unfold Lt; rw [BB2_eq]; exact h
theorem riv_store {w W : World} {p : Nat} {n : Bool} {A : Option Addr} {c : Nat} {l : List Nat} {x : Int} (hW : Below w.heap.size w W) (hp : w.heap.size ≤ p) (hbx : Box2 W p (.bool false) (.slice none 0 0)) (h : IV W n A c l x) :
  RIV w x (.returned (.agg #[.bool n, .slice A l.length c])) ((W.setCell ⟨p, 0, none⟩ (.bool n)).setCell ⟨p, 1, none⟩ (.slice A l.length c)) :=
 ⟨n, A, c, l, rfl, ⟨h.cap, h.ws.two (ws_off_box hbx (by simp) h.ws) _ _, h.can, h.val, h.len⟩, b2 hW hp _ _⟩
section
variable {w : World} {n m : Bool} {A B : Option Addr} {c d : Nat} {l k : List Nat} {x y z : Int}
theorem RIs_iv (h : IV w n A c l x) :
  Calls Tryz.prog 31 #[.agg #[.bool n, .slice A l.length c]] w fun e w' => e = .returned (.bool true) ∧ Below w.heap.size w w' := by
 have e1 := h.len
 have r := RIs_any n A l.length c l w rfl (by omega) h.ws
 rwa [h.can] at r
theorem RNeg_iv (h : IV w n A c l x) (hz : -x = z) (hlt : Lt 2100 z) :
  Calls Tryz.prog 100 #[.agg #[.bool n, .slice A l.length c]] w (RIV w z) := by
 have e1 := h.len
 refine (RNeg_any w w n A l.length c l true rfl (by omega) h.cap h.ws h.can (b0 _)).mono fun e w' hr => hr.iv ?_ hlt
 rw [h.val]; exact hz
theorem RAbs_iv (h : IV w n A c l x) (hz : (x.natAbs : Int) = z) (hlt : Lt 2100 z) :
  Calls Tryz.prog 62 #[.agg #[.bool n, .slice A l.length c]] w (RIV w z) := by
 have e1 := h.len
 refine (RAbs_any w w n A l.length c l true rfl (by omega) h.cap h.ws h.can (b0 _)).mono fun e w' hr => hr.iv ?_ hlt
 rw [show ite0 true ((val l : Int)) = (val l : Int) from rfl, val_abs h.val]; exact hz
theorem ROf_iv (w : World) (x : Int) (h1 : -9223372036854775808 ≤ x) (h2 : x ≤ 9223372036854775807) :
  Calls Tryz.prog 59 #[.int .i64 x] w (RIV w x) :=
 (ROf_any w w x h1 h2 (b0 _)).mono fun e w' hr => hr.iv rfl (lt_le (lt_two (by omega)) (by decide))
end
theorem m23abf {P : Prop} (h : P := by
 go_enter Tryz.func90, Tryz.ntmps90
 go_wp2_with fail
 have hbx := Box2.new w (.bool n) (.slice A l.length c)
 obtain ⟨c0, c1⟩ := hbx.cs
 have hl1 := hl.below (ba (b0 w) (.cells #[.bool n, .slice A l.length c] 24))
 go_quiet ((go_at_call 145; first | (with_reducible exact quiet_w (HW0.out _ (hl1.below (bd (b0 _) _)))) | (with_reducible exact quiet_w (HW1.out _ (hl1.below (bd (b0 _) _))))))
 go_wp2_with fail
 go_ret2
 exact ⟨rfl, bd (ba (b0 _) _) _⟩) : P := h
theorem Rnative_no {w : World} {n : Bool} {A : Option Addr} {c : Nat} {l : List Nat} {x : Int} (h : IV w n A c l x) (hx : 4611686018427387904 ≤ x.natAbs) :
  Calls Tryz.prog 90 #[.agg #[.bool n, .slice A l.length c]] w fun e w' => e = .returned (.tuple #[.int .i64 0, .bool false]) ∧ Below w.heap.size w w' := by
 have hm := h.len
 have hl := h.ws
 have hW0 := fun W h => Rword_any A l.length c 0 l W rfl (by omega) (by omega) (by omega) h
 have hW1 := fun W h => Rword_any A l.length c 1 l W rfl (by omega) (by omega) (by omega) h
 rw [show Int.toNat 0 = 0 from rfl] at hW0
 rw [show Int.toNat 1 = 1 from rfl] at hW1
 have HW0 := Hi hW0
 have HW1 := Hi hW1
 have b1 := hl.lt 0
 have b2' := hl.lt 1
 clear hW0 hW1
 obtain ⟨x0, hx0⟩ : ∃ x, x = gd l 0 := ⟨_, rfl⟩
 obtain ⟨y0, hy0⟩ : ∃ y, y = gd l 1 := ⟨_, rfl⟩
 rw [← hx0] at HW0 b1
 rw [← hy0] at HW1 b2'
 obtain ⟨u, hu⟩ : ∃ m, m = x0 + 4294967296 * y0 := ⟨_, rfl⟩
 have hor := or64 x0 y0 b1 b2'
 rw [← hu] at hor
 have hvz : val l = x.natAbs := by rw [← h.val]; unfold zI; split <;> simp
 have hmv : l.length ≤ 2 → 4611686018427387904 ≤ u := fun h => by
  have := val_two h
  rw [← hx0, ← hy0, ← hu] at this
  omega
 have hml : u < 18446744073709551616 := by omega
 clear hu hx0 hy0 h hvz hx
 by_cases h2 : l.length > 2
 ·have h2i : (2 : Int) < (l.length : Int) := by omega
  clear hmv
  exact m23abf
 ·have h2i : ¬ (2 : Int) < (l.length : Int) := by omega
  have hgi : (4611686018427387904 : Int) ≤ (u : Int) := by have := hmv (by omega); omega
  clear hmv h2
  exact m23abf
theorem Rnative_yes {w : World} {n : Bool} {A : Option Addr} {c : Nat} {l : List Nat} {x : Int} (h : IV w n A c l x) (hx : x.natAbs < 4611686018427387904) :
  Calls Tryz.prog 90 #[.agg #[.bool n, .slice A l.length c]] w fun e w' => e = .returned (.tuple #[.int .i64 x, .bool true]) ∧ Below w.heap.size w w' := by
 have hm := h.len
 have hl := h.ws
 have hW0 := fun W h => Rword_any A l.length c 0 l W rfl (by omega) (by omega) (by omega) h
 have hW1 := fun W h => Rword_any A l.length c 1 l W rfl (by omega) (by omega) (by omega) h
 rw [show Int.toNat 0 = 0 from rfl] at hW0
 rw [show Int.toNat 1 = 1 from rfl] at hW1
 have HW0 := Hi hW0
 have HW1 := Hi hW1
 have b1 := hl.lt 0
 have b2' := hl.lt 1
 clear hW0 hW1
 have hvz : val l = x.natAbs := by rw [← h.val]; unfold zI; split <;> simp
 have hl2 : l.length ≤ 2 := top_len (isB_top h.can) (by rw [hvz, BB2_eq]; omega)
 obtain ⟨x0, hx0⟩ : ∃ x, x = gd l 0 := ⟨_, rfl⟩
 obtain ⟨y0, hy0⟩ : ∃ y, y = gd l 1 := ⟨_, rfl⟩
 rw [← hx0] at HW0 b1
 rw [← hy0] at HW1 b2'
 obtain ⟨u, hu⟩ : ∃ m, m = x0 + 4294967296 * y0 := ⟨_, rfl⟩
 have hor := or64 x0 y0 b1 b2'
 rw [← hu] at hor
 have hmv : u = x.natAbs := by
  have := val_two hl2
  rw [← hx0, ← hy0, ← hu] at this
  omega
 have hz : (if n = true then -(u : Int) else (u : Int)) = x := by
  rw [hmv, ← hvz, ← h.val]; unfold zI; rfl
 have h2i : ¬ (2 : Int) < (l.length : Int) := by omega
 have hgd : ((4611686018427387904 : Int) ≤ (u : Int)) = False := eq_false (by omega)
 have hul : u < 4611686018427387904 := by omega
 have HW4 : Hid (wrap64 (-(u : Int)) = -(u : Int)) := Hi (by unfold wrap64; omega)
 have hw1 : wrap64 (u : Int) = (u : Int) := by unfold wrap64; omega
 have HZ := Hi hz
 clear hu hx0 hy0 h hvz hx hmv hz hl2 hul
 cases n
 ·go_enter Tryz.func90, Tryz.ntmps90
  go_wp2_with fail
  have hbx := Box2.new w (.bool false) (.slice A l.length c)
  obtain ⟨c0, c1⟩ := hbx.cs
  have hl1 := hl.below (ba (b0 w) (.cells #[.bool false, .slice A l.length c] 24))
  go_quiet ((go_at_call 145; first | (with_reducible exact quiet_w (HW0.out _ (hl1.below (bd (b0 _) _)))) | (with_reducible exact quiet_w (HW1.out _ (hl1.below (bd (b0 _) _))))))
  go_wp2_with fail
  go_ret2
  refine ⟨?_, bd (ba (b0 _) _) _⟩
  rw [← HZ.out]
  first | rfl | (show Ending.returned (.tuple #[.int .i64 (wrap64 (u : Int)), .bool true]) = _; rw [hw1]; rfl)
 ·go_enter Tryz.func90, Tryz.ntmps90
  go_wp2_with fail
  have hbx := Box2.new w (.bool true) (.slice A l.length c)
  obtain ⟨c0, c1⟩ := hbx.cs
  have hl1 := hl.below (ba (b0 w) (.cells #[.bool true, .slice A l.length c] 24))
  go_quiet ((go_at_call 145; first | (with_reducible exact quiet_w (HW0.out _ (hl1.below (bd (b0 _) _)))) | (with_reducible exact quiet_w (HW1.out _ (hl1.below (bd (b0 _) _))))))
  go_wp2_with fail
  go_ret2
  refine ⟨?_, bd (ba (b0 _) _) _⟩
  rw [← HZ.out]
  first | rfl | (show Ending.returned (.tuple #[.int .i64 (wrap64 (-(u : Int))), .bool true]) = _; rw [HW4.out]; rfl)
end Go.Proofs.YtgljdfblgpdaaaaGreatDoor
