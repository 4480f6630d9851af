/- reduce. -/
import Derived.Test.YtaaipcjbmdbndaaDoorNumKnu
import Derived.Deep.RegionLaw
import Derived.Deep.AppendLies
namespace Go.Proofs.YtaaipcjbmdbndaaDoor
open Go.RowKit

/-- T times l has been taken off the words of L from o on, as often as it could. -/
def RedP (g o : Nat) (L l : List Nat) (w : World) (e : Ending) (w' : World) : Prop :=
  ∃ S : List Nat, e = .returned (.int .u32 ((val (seg L o (l.length + 1)) / val l : Nat) : Int)) ∧ S.length = l.length + 1 ∧ (∀ x ∈ S, x < 4294967296) ∧ val S = val (seg L o (l.length + 1)) % val l ∧ Blk w' g (spl L o S) ∧ Only g w w'

theorem red_exact {R D q s : Nat} (hD : 0 < D) (hq : R / D ≤ q) (h : s + q * D = R) : q = R / D ∧ s = R % D := by
  have h1 : q ≤ R / D := (Nat.le_div_iff_mul_le hD).2 (by omega)
  have h2 : q = R / D := by omega
  have h3 := Nat.div_add_mod R D
  rw [Nat.mul_comm, ← h2] at h3
  exact ⟨h2, by omega⟩
theorem red_back {R D q s B : Nat} (hD : 0 < D) (hq2 : q ≤ R / D + 1) (hs : s < B) (h : s + q * D = R + B) : q = R / D + 1 ∧ s + D = B + R % D := by
  have h0 : R < q * D := by omega
  have h1 : R / D < q := (Nat.div_lt_iff_lt_mul hD).2 h0
  have h2 : q = R / D + 1 := by omega
  have h3 := Nat.div_add_mod R D
  rw [h2, Nat.add_mul, Nat.mul_comm (R / D)] at h
  exact ⟨h2, by omega⟩
theorem spl_twice {L : List Nat} {o : Nat} {S S' : List Nat} (hL : o + S.length ≤ L.length) (h : S'.length ≤ S.length) : spl (spl L o S) o S' = spl L o (S' ++ S.drop S'.length) := by
  unfold spl
  have h1 : (L.take o ++ S ++ L.drop (o + S.length)).take o = L.take o := by
    rw [List.append_assoc, List.take_append_of_le_length (by simp; omega), List.take_of_length_le (by rw [List.length_take]; omega)]
  have h2 : (L.take o ++ S ++ L.drop (o + S.length)).drop (o + S'.length) = S.drop S'.length ++ L.drop (o + S.length) := by
    rw [List.append_assoc, List.drop_append, List.drop_eq_nil_of_le (by simp; omega), List.length_take, Nat.min_eq_left (by omega), Nat.add_sub_cancel_left, List.nil_append, List.drop_append_of_le_length h]
  rw [h1, h2]
  simp
  omega
theorem seg_own {L : List Nat} {o n : Nat} {S : List Nat} (hL : o + S.length ≤ L.length) (hn : n ≤ S.length) : seg (spl L o S) o n = S.take n := by
  have h := seg_spl hL
  have : seg (spl L o S) o n = (seg (spl L o S) o S.length).take n := by
    unfold seg; rw [List.take_take, Nat.min_eq_left hn]
  rw [this, h]
theorem gd_own {L : List Nat} {o j : Nat} {S : List Nat} (hL : o + S.length ≤ L.length) (hj : j < S.length) : gd (spl L o S) (o + j) = gd S j := by
  have h := seg_spl hL
  rw [← gd_drop]
  have e : gd ((spl L o S).drop o) j = gd (seg (spl L o S) o S.length) j := by unfold seg; rw [gd_take hj]
  rw [e, h]

theorem u32_add {x y : Nat} (hx : x < 4294967296) (hy : y < 4294967296) : IntKind.u32.wrap ((x : Int) + (y : Int)) = (((x + y) % 4294967296 : Nat) : Int) := by
  simp [IntKind.wrap, IntKind.signed, IntKind.bits]

theorem red_fin {K s3 r3 top v vS D R : Nat} (h1 : s3 + K * r3 = v + D) (h2 : vS = v + K * top) (h3 : vS + D = K * 4294967296 + R) (hs : s3 < K) (hR : R < K) : top + r3 = 4294967296 ∧ s3 = R := by
  have hK : 0 < K := by omega
  have e : s3 + K * (top + r3) = R + K * 4294967296 := by rw [Nat.mul_add]; omega
  have e1 := congrArg (· / K) e
  simp only [Nat.add_mul_div_left _ _ hK, Nat.div_eq_of_lt hs, Nat.div_eq_of_lt hR, Nat.zero_add] at e1
  rw [e1] at e
  exact ⟨e1, by omega⟩

set_option maxRecDepth 100000 in
set_option maxHeartbeats 1000000 in
theorem reduce_any (g o d m : Nat) (L : List Nat) (A : Option Addr) (c : Nat) (l : List Nat) (w : World) (hm : l.length = m + 2) (hm2 : m ≤ 500000) (hL : o + (m + 3) ≤ L.length) (htop : 2147483648 ≤ gd l (m + 1)) (hfit : val (seg L o (m + 3)) < 4294967296 * val l)
    (hg : Blk w g L) (hl : WS w A l) (ho : Off A l g) :
    Calls Tryd.prog 93 #[.slice (some ⟨g, o, none⟩) (m + 3) d, .slice A (m + 2) c] w (RedP g o L l w) := by
  have hDpos : 0 < val l := Nat.pos_of_ne_zero (fun h => by rw [h] at hfit; omega)
  have hDlt := val_lt hl.1
  have HD := Lib.hid hDpos
  have HDL := Lib.hid hDlt
  have HM := Lib.hid hm
  have hsegw : WS w (some ⟨g, o, none⟩) (seg L o (m + 3)) := hg.ws hL
  have hsegl : (seg L o (m + 3)).length = m + 3 := seg_length hL
  obtain ⟨T, hT⟩ : ∃ T, T = val (seg L o (m + 3)) / val l := ⟨_, rfl⟩
  have HT := Lib.hid hT
  have hTB : T < 4294967296 := by rw [hT]; exact Nat.div_lt_of_lt_mul (by rw [Nat.mul_comm]; exact hfit)
  have hgs := guess_any (some ⟨g, o, none⟩) A m d c (seg L o (m + 3)) l T w hsegl hm (by omega) hsegw hl htop hfit hT
  have HGS := Lib.hid hgs
  clear hDpos hDlt hm hT hgs hfit hsegl
  go_enter Tryd.func93, Tryd.ntmps93
  go_wp2_with fail
  refine HGS.out.mono ?_
  rintro e w1 ⟨q, rfl, hq1, hq2, hq3, hb1⟩
  go_wp2_with fail
  have hsub := subRow_any g o d L A c l q w1 (by rw [HM.out]; omega) (by rw [HM.out]; exact hL) hq3 (by rw [HM.out]; omega) (hg.below hb1) (hl.below hb1) ho
  rw [HM.out] at hsub
  refine hsub.mono ?_
  rintro e w2 ⟨S, b, rfl, hS, hSw, hv, hb2, hO2⟩
  rw [HM.out] at hS hv
  have HS := Lib.hid hS
  have hO12 := (Only.mono (g := g) hb1).trans hO2
  have hl2 := (hl.below hb1).only hO2 ho
  clear hsub hS
  cases b
  · have h := red_exact HD.out (by rw [← HT.out]; exact hq1) (by simpa using hv)
    have HR := Lib.hid h
    clear hv h
    go_wp2_with fail
    go_ret
    refine ⟨S, ?_, by rw [HM.out]; exact HS.out, hSw, by rw [HM.out]; exact HR.out.2, hb2, hO12⟩
    show Ending.returned (.int .u32 (q : Int)) = _
    rw [HM.out, ← HR.out.1]
  · have hSlt := val_lt hSw
    rw [HS.out] at hSlt
    have h := red_back HD.out (by rw [← HT.out]; exact hq2) hSlt (by simpa using hv)
    have HR := Lib.hid h
    have hqT : q = T + 1 := by rw [h.1, HT.out]
    clear hv h hSlt
    subst hqT
    have hspl : (spl L o S).length = L.length := spl_length (by rw [HS.out]; omega)
    have hcell := hb2.cell (i := o + (m + 2)) (by rw [hspl]; omega)
    have hfree := hb2.free (o + (m + 2))
    rw [gd_own (by rw [HS.out]; omega) (by rw [HS.out]; omega)] at hcell
    have htopS := getD_lt hSw (m + 2)
    obtain ⟨top, htp⟩ : ∃ top, top = gd S (m + 2) := ⟨_, rfl⟩
    rw [← htp] at hcell htopS
    have HTP := Lib.hid htp
    have HSPL := Lib.hid hspl
    have hq1b : 1 ≤ T + 1 := by omega
    have hi0 : (0 : Int) ≤ (m : Int) + 2 := by omega
    have hi1 : (m : Int) + 2 < (m : Int) + 3 := by omega
    have hi2 : ((m : Int) + 2).toNat = m + 2 := by omega
    have hi3 : ¬ ((m : Int) + 2 < 0) := by omega
    clear htp hspl
    go_wp2_with fail
    go_region_law (first
      | (go_simp; go_at_call 101; refine (addBack_any g o (m + 3) d (spl L o S) A (m + 2) c l _ HM.out (by omega) (by omega) (by rw [HSPL.out]; exact hL) (hb2.below (by first | exact bw (b0 _) | exact b0 _)) (hl2.below (by first | exact bw (b0 _) | exact b0 _)) ho).mono ?_; rintro e w3 ⟨S3, r3, rfl, hr3, hS3, hS3w, hv3, hb3, hO3⟩; have HS3 := Lib.hid hS3; have HV3 := Lib.hid hv3; have hc3 := hb3.cell (i := o + (m + 2)) (by rw [spl_length (by rw [HSPL.out, HS3.out]; omega), HSPL.out]; omega); have hf3 := hb3.free (o + (m + 2)); rw [spl_get (by rw [HS3.out]; omega) (by rw [HSPL.out, HS3.out]; omega), gd_own (by rw [HS.out]; omega) (by rw [HS.out]; omega), ← HTP.out] at hc3; clear hS3 hv3; have hw3 := u32_add htopS hr3))
    all_goals (go_wp2_with fail)
    all_goals
      go_ret
      have hdm : val (seg L o (m + 3)) % val l < BB (m + 2) := by
        have h1 := HDL.out
        rw [HM.out] at h1
        exact Nat.lt_trans (Nat.mod_lt _ HD.out) h1
      have hv3 := HV3.out
      rw [seg_own (by rw [HS.out]; omega) (by rw [HS.out]; omega)] at hv3
      have hvS := val_take S (k := m + 2) (by rw [HS.out]; omega)
      rw [List.take_of_length_le (by rw [HS.out]; omega), ← HTP.out] at hvS
      have hs3 := val_lt hS3w
      rw [HS3.out] at hs3
      have hfin := red_fin hv3 hvS (by rw [HR.out.2, BB_succ]) hs3 hdm
      have hx : (top + r3) % 4294967296 = 0 := by rw [hfin.1]
      have hset := hb3.set_ (i := o + (m + 2)) (x := (top + r3) % 4294967296) (Nat.mod_lt _ (by decide))
      have e1 : o + (m + 2) = o + S3.length := by rw [HS3.out]
      rw [e1, spl_set _ (by rw [HSPL.out, HS3.out]; omega), spl_twice (by rw [HS.out]; omega) (by simp [HS.out, HS3.out]), ← e1, List.drop_eq_nil_of_le (by simp [HS.out, HS3.out]), List.append_nil] at hset
      refine ⟨S3 ++ [(top + r3) % 4294967296], ?_, by simp [HS3.out, HM.out], words_snoc hS3w (Nat.mod_lt _ (by decide)), ?_, by simpa using hset, (hO12.trans ((only_refl g w2).draw 1 |>.trans hO3)).set_ (.inl rfl) _⟩
      · rw [HM.out, ← HT.out]; rfl
      · rw [val_snoc, hx, Nat.mul_zero, Nat.add_zero, HM.out]; exact hfin.2
end Go.Proofs.YtaaipcjbmdbndaaDoor
