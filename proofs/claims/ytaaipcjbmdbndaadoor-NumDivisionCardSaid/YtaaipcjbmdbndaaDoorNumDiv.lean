/- shorten; divide of at most two words by at most two. -/
import Derived.Test.YtaaipcjbmdbndaaDoorNumSmall
namespace Go.Proofs.YtaaipcjbmdbndaaDoor
open Go.RowKit

theorem gd_low {L S R : List Nat} {j : Nat} (h : j < L.length) (_h2 : j < j + 1) : gd (L.take (j + 1) ++ S ++ R) j = gd L j := by
  simp only [gd, List.getD_eq_getElem?_getD]
  rw [List.append_assoc, List.getElem?_append_left (by simp; omega), List.getElem?_take, if_pos (by omega)]
theorem set_mid {L S R : List Nat} {j x : Nat} (h : j < L.length) : (L.take (j + 1) ++ S ++ R).set j x = L.take j ++ (x :: S) ++ R := by
  have h1 : L.take (j + 1) = L.take j ++ [gd L j] := take_snoc L h
  have h2 : (L.take j).length = j := by rw [List.length_take]; omega
  rw [h1, List.append_assoc, List.append_assoc, List.set_append_right _ _ (by omega), h2, Nat.sub_self]
  simp
theorem short_step {x r T Q R y v : Nat} (hT : T = x + 4294967296 * r) (hQ : T = y * Q + R) : x + 4294967296 * (v * y + r) = (Q + 4294967296 * v) * y + R := by
  rw [Nat.add_mul, Nat.mul_add, Nat.mul_assoc, Nat.mul_comm Q y]
  omega

set_option maxRecDepth 100000 in
set_option maxHeartbeats 400000 in
theorem shorten_any (g n c : Nat) (L : List Nat) (y : Nat) (w : World) (hL : n ≤ L.length) (hn2 : n ≤ 4000000) (hy : y < 4294967296) (hy0 : 0 < y) (hg : Blk w g L) :
    Calls Tryd.prog 68 #[.slice (some ⟨g, 0, none⟩) n c, .int .u32 (y : Int)] w fun e w' =>
      ∃ S : List Nat, e = .returned (.int .u32 ((val (L.take n) % y : Nat) : Int)) ∧ S.length = n ∧ val S = val (L.take n) / y ∧ Blk w' g (S ++ L.drop n) ∧ Only g w w' := by
  have hy1 : ((y : Int) == 0) = false := beq_eq_false_iff_ne.2 (by omega)
  go_enter Tryd.func68, Tryd.ntmps68
  go_wp2_with fail
  go_loopw [5, 6] (fun rv iv wr => ∃ (k : Nat) (S : List Nat) (r : Nat), k ≤ n ∧ iv = .int .i64 ((k : Int) - 1) ∧ rv = .int .u64 (r : Int) ∧ r < y ∧ S.length = n - k ∧ val (seg L k (n - k)) = val S * y + r ∧ Blk wr g (L.take k ++ S ++ L.drop n) ∧ Only g w wr) (fun _ iv _ => (intOf iv + 1).toNat)
  case atStart => exact ⟨n, [], 0, Nat.le_refl _, rfl, rfl, hy0, by simp, by simp [seg_zero, val], by simpa using hg, only_refl _ _⟩
  case round =>
    obtain ⟨k, S, r, hk, rfl, rfl, hr, hS, hv, hb, hO⟩ := hrel
    rcases Nat.eq_zero_or_pos k with rfl | h0
    · have e : seg L 0 (n - 0) = L.take n := by simp [seg]
      rw [e] at hv
      have hq : val S = val (L.take n) / y := by rw [hv, Nat.mul_comm, Nat.mul_add_div hy0, Nat.div_eq_of_lt hr, Nat.add_zero]
      have hq2 : r = val (L.take n) % y := by rw [hv, Nat.mul_comm, Nat.mul_add_mod, Nat.mod_eq_of_lt hr]
      have HQ := Lib.hid hq
      have HR := Lib.hid hq2
      have HS := Lib.hid hS
      clear hv e hq hq2 hS
      go_wp2_with fail
      go_ret
      exact ⟨S, ret_int (by rw [← HR.out]), HS.out, HQ.out, by simpa using hb, hO⟩
    · obtain ⟨j, rfl⟩ : ∃ j, k = j + 1 := ⟨k - 1, by omega⟩
      have hlen : (L.take (j + 1) ++ S ++ L.drop n).length = L.length := by simp; omega
      have hc1 := hb.cell (i := j) (by omega)
      have hf1 := hb.free j
      have hx := getD_lt hb.1 j
      have HB := Lib.hid hb
      have HS := Lib.hid hS
      have HV := Lib.hid hv
      clear hb hS hv hlen
      generalize hxe : gd (L.take (j + 1) ++ S ++ L.drop n) j = x at *
      have hxl : gd L j = x := by rw [← hxe]; exact (gd_low (by omega) (by omega)).symm
      have HX := Lib.hid hxl
      clear hxe hxl
      obtain ⟨T, hT⟩ : ∃ T, T = x + 4294967296 * r := ⟨_, rfl⟩
      have hor : bits BinOp.or IntKind.u64 ((r : Int) * 4294967296) (x : Int) = (T : Int) := by rw [hT]; exact or64' x r hx (by omega)
      obtain ⟨Q, hQ⟩ : ∃ Q, Q = T / y := ⟨_, rfl⟩
      obtain ⟨R, hR⟩ : ∃ R, R = T % y := ⟨_, rfl⟩
      have hTQ : T = y * Q + R := by rw [hQ, hR]; exact (Nat.div_add_mod T y).symm
      have hRy : R < y := by rw [hR]; exact Nat.mod_lt _ hy0
      have hQl : Q < 4294967296 := by rw [hQ]; exact Nat.div_lt_of_lt_mul (by
        have := Nat.mul_le_mul_left 4294967296 (show r + 1 ≤ y from hr)
        rw [hT, Nat.mul_comm y 4294967296]; omega)
      have hd1 : (T : Int) / (y : Int) = (Q : Int) := by rw [hQ]; simp
      have hd2 : (T : Int).tdiv (y : Int) = (Q : Int) := by rw [Int.tdiv_eq_ediv_of_nonneg (by omega)]; exact hd1
      have hm1 : (T : Int) % (y : Int) = (R : Int) := by rw [hR]; simp
      have hm2 : (T : Int).tmod (y : Int) = (R : Int) := by rw [Int.tmod_eq_emod_of_nonneg (by omega)]; exact hm1
      have HT := Lib.hid hT
      have HTQ := Lib.hid hTQ
      have hTl : T < 18446744073709551616 := by omega
      clear hT hTQ hQ hR
      go_wp2_with fail
      go_roundw
      case rel =>
        refine ⟨j, Q :: S, R, by omega, rfl, rfl, hRy, by simp [HS.out]; omega, ?_, ?_, hO.set_ (.inl rfl) _⟩
        · have e1 : seg L j (n - j) = x :: seg L (j + 1) (n - (j + 1)) := by
            unfold seg
            rw [List.drop_eq_getElem_cons (by omega), show n - j = (n - (j + 1)) + 1 from by omega, List.take_succ_cons, ← gd_at (by omega), HX.out]
          rw [e1]
          simp only [val]
          rw [HV.out]
          exact short_step HT.out HTQ.out
        · have h := HB.out.set_ (i := j) hQl
          rw [set_mid (by omega)] at h
          have em : ((Q : Int) % 4294967296) = (Q : Int) := by omega
          first | exact h | (rw [em]; exact h)
      case measure => simp [intOf]

end Go.Proofs.YtaaipcjbmdbndaaDoor
