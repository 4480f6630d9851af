/- The specification's addWords. -/
import Derived.Test.YtgljdfblgpdaaaaGreatDoorNumTxM
import Derived.Test.YtgljdfblgpdaaaaGreatDoorNumParse
import Derived.Test.YtgljdfblgpdaaaaGreatDoorNumProd
set_option linter.unusedSimpArgs false
set_option linter.unusedVariables false
namespace Go.Proofs.YtgljdfblgpdaaaaGreatDoor
open Go.RowKit Go.Shelf

/-- Words that were computed: no last 0, the value N, and what was there is kept. -/
def WsP (a : World) (N : Nat) (e : Ending) (w' : World) : Prop := ∃ A c l, e = .returned (.slice A l.length c) ∧ l.length ≤ c ∧ WS w' A l ∧ Top l ∧ val l = N ∧ Below a.heap.size a w'

theorem own_block_le {base : Nat} {W : World} {v : Value} {l : List Nat} (h : OwnR base W v l) : ∀ q, v.ownBlock = some q → base ≤ q := by
  rcases h.1.2 with ⟨rfl, _⟩ | ⟨g, cap, cur, rfl, h1, _⟩
  · intro q hq; simp [Value.ownBlock] at hq
  · intro q hq
    simp [Value.ownBlock] at hq
    omega
theorem val_take_all (l : List Nat) {k : Nat} (h : l.length ≤ k) : val (l.take k) = val l := by rw [List.take_of_length_le h]

/-- trim of words that were computed. -/
theorem trim_wsp (a w : World) (A : Option Addr) (c : Nat) (l : List Nat) (N : Nat) (hm : l.length ≤ 4000000) (hc : l.length ≤ c) (hws : WS w A l) (hN : val l = N) (hb : Below a.heap.size a w) :
    Calls Tryz.prog 149 #[.slice A l.length c] w (WsP a N) := by
  refine (Rtrim_any A _ c l w rfl hm hc hws).mono ?_
  rintro e w1 ⟨⟨k, hk, rfl, h1, h2⟩, rfl⟩
  have e1 : (l.take k).length = k := by rw [List.length_take]; omega
  refine ⟨A, c, l.take k, by rw [e1], by rw [e1]; omega, hws.take k, ?_, ?_, hb⟩
  · intro h0
    rw [e1] at h0 ⊢
    rw [gd_take (by omega)]
    exact h1 h0
  · rw [val_take_top l k h2, hN]

theorem sum_turn {vS K r va vb x y s : Nat} (hv : vS + K * r = va + vb) (hs : s = x + y + r) :
    vS + K * (s % 4294967296) + K * 4294967296 * (s / 4294967296) = va + K * x + (vb + K * y) := by
  have h1 : K * (s % 4294967296) + K * 4294967296 * (s / 4294967296) = K * s := by
    rw [Nat.mul_assoc, ← Nat.mul_add, Nat.mod_add_div]
  rw [Nat.add_assoc, h1, hs, Nat.mul_add, Nat.mul_add]
  omega

set_option maxRecDepth 100000 in
set_option maxHeartbeats 1000000 in
theorem RaddWords_any (A B : Option Addr) (n c m d : Nat) (la lb : List Nat) (w : World) (hn : la.length = n) (hm : lb.length = m) (hn2 : n ≤ 1000000) (hm2 : m ≤ 1000000) (hA : WS w A la) (hB : WS w B lb) :
    Calls Tryz.prog 92 #[.slice A n c, .slice B m d] w (WsP w (val la + val lb)) := by
  subst hn hm
  obtain ⟨i0, hi0, hz0, hz1, hz2⟩ := info_v
  have HW0 := Lib.hid (fun (k : Nat) (hk : k ≤ 2000000) W h => Rword_any A la.length c (k : Int) la W rfl (by omega) (by omega) (by omega) h)
  have HW1 := Lib.hid (fun (k : Nat) (hk : k ≤ 2000000) W h => Rword_any B lb.length d (k : Int) lb W rfl (by omega) (by omega) (by omega) h)
  go_enter Tryz.func92, Tryz.ntmps92
  go_wp2_with fail
  go_loopw [5, 6, 7] (fun ov cv iv wr => ∃ (k : Nat) (S : List Nat) (r : Nat), (k ≤ la.length ∨ k ≤ lb.length) ∧ iv = .int .i64 (k : Int) ∧ cv = .int .u64 (r : Int) ∧ r ≤ 1 ∧ S.length = k ∧ val S + BB k * r = val (la.take k) + val (lb.take k) ∧ OwnR w.heap.size wr ov S ∧ Below w.heap.size w wr) (fun _ _ iv _ => la.length + lb.length - (intOf iv).toNat)
  case atStart => exact ⟨0, [], 0, .inl (Nat.zero_le _), rfl, rfl, by omega, rfl, by simp [val, BB], OwnR.nil _ _, b0 _⟩
  case round =>
    obtain ⟨k, S, r, hk, rfl, rfl, hr, hS, hv, hb, hO⟩ := hrel
    obtain ⟨O, cap, rfl⟩ := hb.slice
    rw [hS] at hb ⊢
    have hk2 : k ≤ 1000000 := by omega
    by_cases hlt : k < la.length ∨ k < lb.length
    · have hx : gd la k < 4294967296 := getD_lt hA.1 k
      have hy : gd lb k < 4294967296 := getD_lt hB.1 k
      have H1 := Lib.hid (val_take_any la k)
      have H2 := Lib.hid (val_take_any lb k)
      have HX := Lib.hid (HW0.out k (by omega))
      have HY := Lib.hid (HW1.out k (by omega))
      rw [Int.toNat_natCast] at HX HY
      generalize gd la k = x at *
      generalize gd lb k = y at *
      obtain ⟨s, hs⟩ : ∃ s, s = x + y + r := ⟨_, rfl⟩
      have hsl : s < 8589934593 := by omega
      obtain ⟨z, hz⟩ : ∃ z, z = s % 4294967296 := ⟨_, rfl⟩
      have et : z < 4294967296 := by omega
      have hzi : (s : Int) % 4294967296 = (z : Int) := by omega
      have HZ := Lib.hid hz
      clear hz
      have hone : Blk (wr.alloc (.cells #[.int .u32 (z : Int)] 83)) wr.heap.size [z] := Blk.new wr [z] (by simpa using et)
      have hws := hone.ws (o := 0) (n := 1) (by simp)
      rw [List.drop_zero, show List.take 1 [z] = [z] from rfl] at hws
      have hb2 := hb.below (ba (b0 wr) (.cells #[.int .u32 (z : Int)] 83))
      have hrow := hb2.1
      rw [hS] at hrow
      have hob := own_block_le hb
      have hO2 := ba hO (.cells #[.int .u32 (z : Int)] 83)
      have hO2s := hO2.size
      have HROW := Lib.hid hrow
      have HWS := Lib.hid hws
      have HOB := Lib.hid hob
      have HO2 := Lib.hid hO2
      have HS := Lib.hid hS
      have HV := Lib.hid hv
      have HB := Lib.hid hb
      have HK := Lib.hid hlt
      have hsi : (x : Int) + (y : Int) + (r : Int) = (s : Int) := by omega
      have hsw : IntKind.u64.wrap (s : Int) = (s : Int) := IntWalk.u64_in _ ⟨by omega, by omega⟩
      have HSS := Lib.hid hs
      clear hs
      clear hS hv hb hrow hws hone hob hO2 hb2
      rcases Nat.lt_or_ge k la.length with h1 | h1
      · have h1i : (k : Int) < (la.length : Int) := by omega
        clear hlt hk
        go_wp2_with fail
        refine (HX.out _ (hA.below hO)).mono ?_
        rintro _ w1 ⟨rfl, rfl⟩
        go_wp2_with fail
        refine (HY.out _ (hB.below hO)).mono ?_
        rintro _ w1 ⟨rfl, rfl⟩
        go_wp2_with (at_builtin; refine wpList_append_lies _ rfl (.tmp 30) (.tmp 33) _ rfl w.heap.size 83 i0 _ 1 4 Tryz.underlying22 hi0 hz0 hz1 hz2 rfl (by omega) (.slice O k cap) k (wv S) rfl HROW.out ⟨wr.heap.size, 0, none⟩ 1 1 (([z] : List Nat).map fun (x : Nat) => Value.int .u32 (x : Int)) rfl (by simp) (news_ws (k := 1) (l := [z]) (by simp) HWS.out) one_words (by omega) (by simp only [maxLen]; omega) (by omega) (by omega) _ rfl ?_; intro g cap2 w3 hown hgrow hat hlt3)
        have hw3 : ∀ y ∈ S ++ [z], y < 4294967296 := words_snoc HB.out.2 et
        have e : wv (S ++ [z]) = wv S ++ ([z] : List Nat).map fun (x : Nat) => Value.int .u32 (x : Int) := by simp [wv]
        have hO3 := HO2.out.grown hgrow hO2s HOB.out
        have hown' : w3.ownsRow w.heap.size 83 1 (.slice (some ⟨g, 0, none⟩) (k + 1) cap2) (S ++ [z]).length (wv (S ++ [z])) := by rw [e, List.length_append, HS.out]; exact hown
        go_roundw
        case rel =>
          refine ⟨k + 1, S ++ [z], s / 4294967296, by omega, by go_num, by go_num, by omega, by simp [HS.out], ?_, ⟨hown', hw3⟩, hO3⟩
          rw [val_snoc, HS.out, H1.out, H2.out, BB_succ, HZ.out]
          exact sum_turn HV.out HSS.out
        case measure =>
          have := HK.out
          simp [intOf]
          omega
      · have h1i : ¬ (k : Int) < (la.length : Int) := by omega
        have h2i : (k : Int) < (lb.length : Int) := by omega
        clear hlt hk
        go_wp2_with fail
        refine (HX.out _ (hA.below hO)).mono ?_
        rintro _ w1 ⟨rfl, rfl⟩
        go_wp2_with fail
        refine (HY.out _ (hB.below hO)).mono ?_
        rintro _ w1 ⟨rfl, rfl⟩
        go_wp2_with (at_builtin; refine wpList_append_lies _ rfl (.tmp 30) (.tmp 33) _ rfl w.heap.size 83 i0 _ 1 4 Tryz.underlying22 hi0 hz0 hz1 hz2 rfl (by omega) (.slice O k cap) k (wv S) rfl HROW.out ⟨wr.heap.size, 0, none⟩ 1 1 (([z] : List Nat).map fun (x : Nat) => Value.int .u32 (x : Int)) rfl (by simp) (news_ws (k := 1) (l := [z]) (by simp) HWS.out) one_words (by omega) (by simp only [maxLen]; omega) (by omega) (by omega) _ rfl ?_; intro g cap2 w3 hown hgrow hat hlt3)
        have hw3 : ∀ y ∈ S ++ [z], y < 4294967296 := words_snoc HB.out.2 et
        have e : wv (S ++ [z]) = wv S ++ ([z] : List Nat).map fun (x : Nat) => Value.int .u32 (x : Int) := by simp [wv]
        have hO3 := HO2.out.grown hgrow hO2s HOB.out
        have hown' : w3.ownsRow w.heap.size 83 1 (.slice (some ⟨g, 0, none⟩) (k + 1) cap2) (S ++ [z]).length (wv (S ++ [z])) := by rw [e, List.length_append, HS.out]; exact hown
        go_roundw
        case rel =>
          refine ⟨k + 1, S ++ [z], s / 4294967296, by omega, by go_num, by go_num, by omega, by simp [HS.out], ?_, ⟨hown', hw3⟩, hO3⟩
          rw [val_snoc, HS.out, H1.out, H2.out, BB_succ, HZ.out]
          exact sum_turn HV.out HSS.out
        case measure =>
          have := HK.out
          simp [intOf]
          omega
    · have h1i : ¬ (k : Int) < (la.length : Int) := by omega
      have h2i : ¬ (k : Int) < (lb.length : Int) := by omega
      have hrl : r < 4294967296 := by omega
      have hone : Blk (wr.alloc (.cells #[.int .u32 (r : Int)] 83)) wr.heap.size [r] := Blk.new wr [r] (by simpa using hrl)
      have hws := hone.ws (o := 0) (n := 1) (by simp)
      rw [List.drop_zero, show List.take 1 [r] = [r] from rfl] at hws
      have hb2 := hb.below (ba (b0 wr) (.cells #[.int .u32 (r : Int)] 83))
      have hrow := hb2.1
      rw [hS] at hrow
      have hob := own_block_le hb
      have hO2 := ba hO (.cells #[.int .u32 (r : Int)] 83)
      have hO2s := hO2.size
      have hv2 : val (S ++ [r]) = val la + val lb := by
        rw [val_snoc, hS, hv, val_take_all la (by omega), val_take_all lb (by omega)]
      have HV := Lib.hid hv2
      have HB := Lib.hid hb
      clear hv hv2 hb hlt
      go_wp2_with (at_builtin; refine wpList_append_lies _ rfl (.tmp 37) (.tmp 40) _ rfl w.heap.size 83 i0 _ 1 4 Tryz.underlying22 hi0 hz0 hz1 hz2 rfl (by omega) (.slice O k cap) k (wv S) rfl hrow ⟨wr.heap.size, 0, none⟩ 1 1 (([r] : List Nat).map fun (x : Nat) => Value.int .u32 (x : Int)) rfl (by simp) (news_ws (k := 1) (l := [r]) (by simp) hws) one_words (by omega) (by simp only [maxLen]; omega) (by omega) (by omega) _ rfl ?_; intro g cap2 w3 hown hgrow hat hlt3)
      have hw3 : ∀ x ∈ S ++ [r], x < 4294967296 := words_snoc HB.out.2 hrl
      have e : wv (S ++ [r]) = wv S ++ ([r] : List Nat).map fun (x : Nat) => Value.int .u32 (x : Int) := by simp [wv]
      have hown' : w3.ownsRow w.heap.size 83 1 (.slice (some ⟨g, 0, none⟩) (k + 1) cap2) (k + 1) (wv (S ++ [r])) := by rw [e]; exact hown
      obtain ⟨hcap, hws3⟩ := ws_of_row (l := S ++ [r]) (n := k + 1) hw3 (by simp [hS]) hown' (by omega) hlt3
      have hO3 := hO2.grown hgrow hO2s hob
      have hlen : (S ++ [r]).length = k + 1 := by simp [hS]
      have hT := trim_wsp w w3 _ cap2 (S ++ [r]) _ (by omega) (by omega) hws3 HV.out hO3
      rw [hlen] at hT
      go_wp2_with fail
      refine hT.mono ?_
      rintro e2 w4 ⟨A4, c4, l4, rfl, h4⟩
      go_wp2_with fail
      go_ret
      exact ⟨A4, c4, l4, rfl, h4⟩
end Go.Proofs.YtgljdfblgpdaaaaGreatDoor
