/- The specification's subWords, unshifted, byWord. -/
import Derived.Test.YtgljdfblgpdaaaaGreatDoorNumWShift
set_option linter.unusedSimpArgs false
set_option linter.unusedVariables false
namespace Go.Proofs.YtgljdfblgpdaaaaGreatDoor
open Go.RowKit Go.Shelf

theorem sub_turn {vS K r va vb x y s : Nat} (hv : vS + vb = va + K * r) (hs : s + y + r = x + 4294967296) (hc : s / 4294967296 ≤ 1) :
    vS + K * (s % 4294967296) + (vb + K * y) = va + K * x + K * 4294967296 * (1 - s / 4294967296) := by
  have e : s % 4294967296 + y + r = x + 4294967296 * (1 - s / 4294967296) := by omega
  have eK := congrArg (fun z => K * z) e
  simp only [Nat.mul_add K] at eK
  rw [Nat.mul_assoc K]
  omega

set_option maxRecDepth 100000 in
set_option maxHeartbeats 1000000 in
theorem RsubWords_any (A B : Option Addr) (n c m d : Nat) (la lb : List Nat) (w : World) (hn : la.length = n) (hm : lb.length = m) (hn2 : n ≤ 1000000) (hmn : m ≤ n) (hle : val lb ≤ val la) (hA : WS w A la) (hB : WS w B lb) :
    Calls Tryz.prog 93 #[.slice A n c, .slice B m d] w (WsP w (val la - val lb)) := by
  subst hn hm
  obtain ⟨i0, hi0, hz0, hz1, hz2⟩ := info_v
  have HW0 := Lib.hid (fun (k : Nat) (hk : k ≤ 2000000) W h => Rword_any A la.length c (k : Int) la W rfl (by omega) (by omega) (by omega) h)
  have HW1 := Lib.hid (fun (k : Nat) (hk : k ≤ 2000000) W h => Rword_any B lb.length d (k : Int) lb W rfl (by omega) (by omega) (by omega) h)
  have HLE := Lib.hid hle
  clear hle
  go_enter Tryz.func93, Tryz.ntmps93
  go_wp2_with fail
  go_loopw [5, 6, 7] (fun ov cv iv wr => ∃ (k : Nat) (S : List Nat) (r : Nat), k ≤ la.length ∧ iv = .int .i64 (k : Int) ∧ cv = .int .u64 (r : Int) ∧ r ≤ 1 ∧ S.length = k ∧ val S + val (lb.take k) = val (la.take k) + BB k * r ∧ OwnR w.heap.size wr ov S ∧ Below w.heap.size w wr) (fun _ _ iv _ => la.length - (intOf iv).toNat)
  case atStart => exact ⟨0, [], 0, Nat.zero_le _, rfl, rfl, by omega, rfl, by simp [val, BB], OwnR.nil _ _, b0 _⟩
  case round =>
    obtain ⟨k, S, r, hk, rfl, rfl, hr, hS, hv, hb, hO⟩ := hrel
    obtain ⟨O, cap, rfl⟩ := hb.slice
    rw [hS] at hb ⊢
    by_cases hlt : k < la.length
    · have hx : gd la k < 4294967296 := getD_lt hA.1 k
      have hy : gd lb k < 4294967296 := getD_lt hB.1 k
      have H1 := Lib.hid (val_take_any la k)
      have H2 := Lib.hid (val_take_any lb k)
      have HX := Lib.hid (HW0.out k (by omega))
      have HY := Lib.hid (HW1.out k (by omega))
      rw [Int.toNat_natCast] at HX HY
      generalize gd la k = x at *
      generalize gd lb k = y at *
      obtain ⟨s, hs⟩ : ∃ s, s + y + r = x + 4294967296 := ⟨x + 4294967296 - y - r, by omega⟩
      have hsl : s < 8589934592 := by omega
      obtain ⟨z, hz⟩ : ∃ z, z = s % 4294967296 := ⟨_, rfl⟩
      obtain ⟨q, hq⟩ : ∃ q, q = s / 4294967296 := ⟨_, rfl⟩
      have hqi : (s : Int) / 4294967296 = (q : Int) := by omega
      have hql : q ≤ 1 := by omega
      obtain ⟨r2, hr2⟩ : ∃ r2, r2 = 1 - q := ⟨_, rfl⟩
      have hri : (1 : Int) - (q : Int) = (r2 : Int) := by omega
      have hr2l : r2 ≤ 1 := by omega
      have et : z < 4294967296 := by omega
      have hzi : (s : Int) % 4294967296 = (z : Int) := by omega
      have HZ := Lib.hid hz
      have HQ := Lib.hid hq
      have HR2 := Lib.hid hr2
      clear hz hq hr2
      have hone : Blk (wr.alloc (.cells #[.int .u32 (z : Int)] 83)) wr.heap.size [z] := Blk.new wr [z] (by simpa using et)
      have hws := hone.ws (o := 0) (n := 1) (by simp)
      rw [List.drop_zero, show List.take 1 [z] = [z] from rfl] at hws
      have hb2 := hb.below (ba (b0 wr) (.cells #[.int .u32 (z : Int)] 83))
      have hrow := hb2.1
      rw [hS] at hrow
      have hob := own_block_le hb
      have hO2 := ba hO (.cells #[.int .u32 (z : Int)] 83)
      have hO2s := hO2.size
      have HROW := Lib.hid hrow
      have HWS := Lib.hid hws
      have HOB := Lib.hid hob
      have HO2 := Lib.hid hO2
      have HS := Lib.hid hS
      have HV := Lib.hid hv
      have HB := Lib.hid hb
      have hx1 : (x : Int) + 4294967296 < 18446744073709551616 := by omega
      have hsi : (x : Int) + 4294967296 - (y : Int) - (r : Int) = (s : Int) := by omega
      have hsw : IntKind.u64.wrap (s : Int) = (s : Int) := IntWalk.u64_in _ ⟨by omega, by omega⟩
      have HSS := Lib.hid hs
      clear hs
      clear hS hv hb hrow hws hone hob hO2 hb2
      have h1i : (k : Int) < (la.length : Int) := by omega
      clear hlt hk
      go_wp2_with fail
      refine (HX.out _ (hA.below hO)).mono ?_
      rintro _ w1 ⟨rfl, rfl⟩
      go_wp2_with fail
      refine (HY.out _ (hB.below hO)).mono ?_
      rintro _ w1 ⟨rfl, rfl⟩
      go_wp2_with (at_builtin; refine wpList_append_lies _ rfl (.tmp 25) (.tmp 28) _ rfl w.heap.size 83 i0 _ 1 4 Tryz.underlying22 hi0 hz0 hz1 hz2 rfl (by omega) (.slice O k cap) k (wv S) rfl HROW.out ⟨wr.heap.size, 0, none⟩ 1 1 (([z] : List Nat).map fun (x : Nat) => Value.int .u32 (x : Int)) rfl (by simp) (news_ws (k := 1) (l := [z]) (by simp) HWS.out) one_words (by omega) (by simp only [maxLen]; omega) (by omega) (by omega) _ rfl ?_; intro g cap2 w3 hown hgrow hat hlt3)
      have hw3 : ∀ y ∈ S ++ [z], y < 4294967296 := words_snoc HB.out.2 et
      have e : wv (S ++ [z]) = wv S ++ ([z] : List Nat).map fun (x : Nat) => Value.int .u32 (x : Int) := by simp [wv]
      have hO3 := HO2.out.grown hgrow hO2s HOB.out
      have hown' : w3.ownsRow w.heap.size 83 1 (.slice (some ⟨g, 0, none⟩) (k + 1) cap2) (S ++ [z]).length (wv (S ++ [z])) := by rw [e, List.length_append, HS.out]; exact hown
      go_roundw
      case rel =>
        refine ⟨k + 1, S ++ [z], r2, by omega, by go_num, rfl, hr2l, by simp [HS.out], ?_, ⟨hown', hw3⟩, hO3⟩
        have hq1 : s / 4294967296 ≤ 1 := by omega
        rw [val_snoc, HS.out, H1.out, H2.out, BB_succ, HZ.out, HR2.out, HQ.out]
        exact sub_turn HV.out HSS.out hq1
      case measure =>
        simp [intOf]
        omega
    · have h1i : ¬ (k : Int) < (la.length : Int) := by omega
      obtain rfl : k = la.length := by omega
      have hvS := val_lt hb.2
      rw [hS] at hvS
      rw [List.take_length, List.take_of_length_le hmn] at hv
      have hle := HLE.out
      have hr0 : r = 0 := by
        rcases Nat.eq_zero_or_pos r with h | h
        · exact h
        · obtain rfl : r = 1 := by omega
          omega
      subst hr0
      have hv2 : val S = val la - val lb := by omega
      have hws := hb.1
      have hwsS : WS wr O S := OwnR.ws (c := cap) (by rw [hS]; exact hb)
      have hcap : S.length ≤ cap := by
        rcases hb.1.2 with ⟨h1, h2⟩ | ⟨g', cap', cur, h1, _, _, h3, _⟩
        · injection h1 with _ _ h4; omega
        · injection h1 with _ _ h4; omega
      have hT := trim_wsp w wr O cap S _ (by omega) hcap hwsS hv2 hO
      rw [hS] at hT
      have HT := Lib.hid hT
      clear hT hws hwsS hv hv2 hb hle hvS hS
      go_wp2_with fail
      refine HT.out.mono ?_
      rintro e2 w4 ⟨A4, c4, l4, rfl, h4⟩
      go_wp2_with fail
      go_ret
      exact ⟨A4, c4, l4, rfl, h4⟩

theorem unshift_step {x y D P M : Nat} (hB : P * M = 4294967296) (hP : 0 < P) (hx : x < 4294967296) (hy : y = D % 4294967296) :
    ((x + 4294967296 * y) / P) % 4294967296 + 4294967296 * (D / P) = (x + 4294967296 * D) / P := by
  have e1 : ∀ z, (x + 4294967296 * z) / P = x / P + M * z := fun z => by
    rw [← hB, Nat.mul_assoc, Nat.add_mul_div_left _ _ hP]
  rw [e1, e1]
  have hd : P ∣ 4294967296 := ⟨M, hB.symm⟩
  have hyP : y % P = D % P := by rw [hy, Nat.mod_mod_of_dvd _ hd]
  have h1 : x / P < M := Nat.div_lt_of_lt_mul (by rw [hB]; exact hx)
  have h2 := Nat.mod_lt D hP
  have h3 : M * (D % P) + M ≤ 4294967296 := by
    have := Nat.mul_le_mul_left M (show D % P + 1 ≤ P from h2)
    rw [Nat.mul_add, Nat.mul_one, Nat.mul_comm M P, hB] at this
    exact this
  have f : ∀ z, M * z = 4294967296 * (z / P) + M * (z % P) := fun z => by
    have := congrArg (fun t => M * t) (Nat.div_add_mod z P)
    simp only [Nat.mul_add] at this
    rw [← Nat.mul_assoc, Nat.mul_comm M P, hB] at this
    exact this.symm
  rw [f y, f D, hyP]
  generalize M * (D % P) = b at *
  generalize x / P = a at *
  generalize y / P = q at *
  generalize D / P = q2 at *
  omega
theorem gd_drop_mod (l : List Nat) (k : Nat) (h : ∀ x ∈ l, x < 4294967296) : gd l k = val (l.drop k) % 4294967296 := by
  rcases Nat.lt_or_ge k l.length with hk | hk
  · rw [val_drop_cons l hk]
    have := getD_lt h k
    omega
  · rw [gd_end hk, List.drop_eq_nil_of_le hk]; rfl

set_option maxRecDepth 100000 in
set_option maxHeartbeats 1000000 in
theorem Runshifted_any (A : Option Addr) (n c : Nat) (la : List Nat) (p : Nat) (w : World) (hn : la.length = n) (hn2 : n ≤ 1000000) (hp : p < 32) (hA : WS w A la) :
    Calls Tryz.prog 150 #[.slice A n c, .int .i64 (p : Int)] w (WsP w (val la / 2 ^ p)) := by
  subst hn
  obtain ⟨i0, hi0, hz0, hz1, hz2⟩ := info_v
  have HW0 := Lib.hid (fun (k : Nat) (hk : k ≤ 2000000) W h => Rword_any A la.length c (k : Int) la W rfl (by omega) (by omega) (by omega) h)
  obtain ⟨P, hP⟩ : ∃ P, P = 2 ^ p := ⟨_, rfl⟩
  have HPM : Hid (P * 2 ^ (32 - p) = 4294967296) := Lib.hid (by rw [hP, ← Nat.pow_add, show p + (32 - p) = 32 from by omega])
  have hP0 : 0 < P := by rw [hP]; exact Nat.two_pow_pos p
  rw [← hP]
  have HP := Lib.hid hP
  clear hP
  go_enter Tryz.func150, Tryz.ntmps150
  go_wp2_with fail
  go_loopw [5, 6] (fun ov iv wr => ∃ (k : Nat) (S : List Nat), k ≤ la.length ∧ iv = .int .i64 (k : Int) ∧ S.length = k ∧ val S + BB k * (val (la.drop k) / P) = val la / P ∧ OwnR w.heap.size wr ov S ∧ Below w.heap.size w wr) (fun _ iv _ => la.length - (intOf iv).toNat)
  case atStart => exact ⟨0, [], Nat.zero_le _, rfl, rfl, by simp [val, BB], OwnR.nil _ _, b0 _⟩
  case round =>
    obtain ⟨k, S, hk, rfl, hS, hv, hb, hO⟩ := hrel
    obtain ⟨O, cap, rfl⟩ := hb.slice
    rw [hS] at hb ⊢
    by_cases hlt : k < la.length
    · have hx : gd la k < 4294967296 := getD_lt hA.1 k
      have hy : gd la (k + 1) < 4294967296 := getD_lt hA.1 (k + 1)
      have HD := Lib.hid (val_drop_cons la hlt)
      have HY0 := Lib.hid (gd_drop_mod la (k + 1) hA.1)
      have HX := Lib.hid (HW0.out k (by omega))
      have HY := Lib.hid (HW0.out (k + 1) (by omega))
      rw [Int.toNat_natCast] at HX HY
      generalize gd la k = x at *
      generalize gd la (k + 1) = y at *
      obtain ⟨T, hT⟩ : ∃ T, T = x + 4294967296 * y := ⟨_, rfl⟩
      have hTl : T < 18446744073709551616 := by omega
      have hor : bits BinOp.or IntKind.u64 (x : Int) ((y : Int) * 4294967296) = (T : Int) := by rw [hT]; exact or64 x y hx hy
      obtain ⟨s, hs⟩ : ∃ s, s = T / P := ⟨_, rfl⟩
      have hsl : s < 18446744073709551616 := by rw [hs]; exact Nat.lt_of_le_of_lt (Nat.div_le_self _ _) hTl
      have hsi : (T : Int) / 2 ^ p = (s : Int) := by rw [hs, HP.out]; simp
      obtain ⟨z, hz⟩ : ∃ z, z = s % 4294967296 := ⟨_, rfl⟩
      have et : z < 4294967296 := by omega
      have hzi : (s : Int) % 4294967296 = (z : Int) := by omega
      have HZ := Lib.hid hz
      have HSS := Lib.hid hs
      have HTT := Lib.hid hT
      clear hz hs hT
      have hone : Blk (wr.alloc (.cells #[.int .u32 (z : Int)] 83)) wr.heap.size [z] := Blk.new wr [z] (by simpa using et)
      have hws := hone.ws (o := 0) (n := 1) (by simp)
      rw [List.drop_zero, show List.take 1 [z] = [z] from rfl] at hws
      have hb2 := hb.below (ba (b0 wr) (.cells #[.int .u32 (z : Int)] 83))
      have hrow := hb2.1
      rw [hS] at hrow
      have hob := own_block_le hb
      have hO2 := ba hO (.cells #[.int .u32 (z : Int)] 83)
      have hO2s := hO2.size
      have HROW := Lib.hid hrow
      have HWS := Lib.hid hws
      have HOB := Lib.hid hob
      have HO2 := Lib.hid hO2
      have HS := Lib.hid hS
      have HV := Lib.hid hv
      have HB := Lib.hid hb
      clear hS hv hb hrow hws hone hob hO2 hb2
      have h1i : (k : Int) < (la.length : Int) := by omega
      clear hlt hk
      go_wp2_with fail
      refine (HX.out _ (hA.below hO)).mono ?_
      rintro _ w1 ⟨rfl, rfl⟩
      go_wp2_with fail
      refine (HY.out _ (hA.below hO)).mono ?_
      rintro _ w1 ⟨rfl, rfl⟩
      go_wp2_with (at_builtin; refine wpList_append_lies _ rfl (.tmp 13) (.tmp 26) _ rfl w.heap.size 83 i0 _ 1 4 Tryz.underlying22 hi0 hz0 hz1 hz2 rfl (by omega) (.slice O k cap) k (wv S) rfl HROW.out ⟨wr.heap.size, 0, none⟩ 1 1 (([z] : List Nat).map fun (x : Nat) => Value.int .u32 (x : Int)) rfl (by simp) (news_ws (k := 1) (l := [z]) (by simp) HWS.out) one_words (by omega) (by simp only [maxLen]; omega) (by omega) (by omega) _ rfl ?_; intro g cap2 w3 hown hgrow hat hlt3)
      have hw3 : ∀ y ∈ S ++ [z], y < 4294967296 := words_snoc HB.out.2 et
      have e : wv (S ++ [z]) = wv S ++ ([z] : List Nat).map fun (x : Nat) => Value.int .u32 (x : Int) := by simp [wv]
      have hO3 := HO2.out.grown hgrow hO2s HOB.out
      have hown' : w3.ownsRow w.heap.size 83 1 (.slice (some ⟨g, 0, none⟩) (k + 1) cap2) (S ++ [z]).length (wv (S ++ [z])) := by rw [e, List.length_append, HS.out]; exact hown
      go_roundw
      case rel =>
        refine ⟨k + 1, S ++ [z], by omega, by go_num, by simp [HS.out], ?_, ⟨hown', hw3⟩, hO3⟩
        have h1 := unshift_step HPM.out hP0 hx HY0.out
        rw [← HTT.out, ← HSS.out, ← HZ.out, ← HD.out] at h1
        rw [← HV.out, ← h1, val_snoc, HS.out, BB_succ, Nat.mul_add, Nat.mul_assoc]
        omega
      case measure =>
        simp [intOf]
        omega
    · have h1i : ¬ (k : Int) < (la.length : Int) := by omega
      obtain rfl : k = la.length := by omega
      rw [List.drop_length, show val [] = 0 from rfl, Nat.zero_div, Nat.mul_zero, Nat.add_zero] at hv
      have hwsS : WS wr O S := OwnR.ws (c := cap) (by rw [hS]; exact hb)
      have hcap : S.length ≤ cap := by
        rcases hb.1.2 with ⟨h1, h2⟩ | ⟨g', cap', cur, h1, _, _, h3, _⟩
        · injection h1 with _ _ h4; omega
        · injection h1 with _ _ h4; omega
      have hT := trim_wsp w wr O cap S _ (by omega) hcap hwsS hv hO
      rw [hS] at hT
      have HT := Lib.hid hT
      clear hT hwsS hv hb hS
      go_wp2_with fail
      refine HT.out.mono ?_
      rintro e2 w4 ⟨A4, c4, l4, rfl, h4⟩
      go_wp2_with fail
      go_ret
      exact ⟨A4, c4, l4, rfl, h4⟩
end Go.Proofs.YtgljdfblgpdaaaaGreatDoor
