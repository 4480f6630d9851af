/- byRows, and product with a factor of at most 48 words. -/
import Derived.Test.YtaaipcjbmdbndaaDoorNumSmall
namespace Go.Proofs.YtaaipcjbmdbndaaDoor
open Go.RowKit

theorem zer_append (m n : Nat) : zer (m + n) = zer m ++ zer n := by simp [zer]
theorem seg_mid {S R : List Nat} {i n : Nat} (h : i + n = S.length) : seg (S ++ R) i n = S.drop i := by
  unfold seg
  rw [List.drop_append_of_le_length (by omega), List.take_append_of_le_length (by simp; omega), List.take_of_length_le (by simp; omega)]
theorem spl_zer (N : Nat) (S : List Nat) : spl (zer N) 0 S = S ++ zer (N - S.length) := by simp [spl, zer]
/-- A row laid over the words from place i on, and the carry behind it. -/
theorem spl_row {S S' : List Nat} {N i : Nat} (r : Nat) (h : i + S'.length = S.length) (hN : S.length < N) :
    (spl (spl (zer N) 0 S) i S').set (i + S'.length) r = spl (zer N) 0 (S.take i ++ S' ++ [r]) := by
  have h1 : spl (spl (zer N) 0 S) i S' = (S.take i ++ S') ++ zer (N - S.length) := by
    rw [spl_zer]
    unfold spl
    rw [List.take_append_of_le_length (by omega), h, List.drop_left]
  have h2 : zer (N - S.length) = 0 :: zer (N - S.length - 1) := by
    obtain ⟨m, hm⟩ : ∃ m, N - S.length = m + 1 := ⟨N - S.length - 1, by omega⟩
    rw [hm]; simp [zer, List.replicate_succ]
  have h5 : N - (S.take i ++ S' ++ [r]).length = N - S.length - 1 := by
    simp only [List.length_append, List.length_take, List.length_cons, List.length_nil]; omega
  have h3 : i + S'.length = (S.take i ++ S').length := by rw [List.length_append, List.length_take, Nat.min_eq_left (show i ≤ S.length from by omega)]
  rw [h1, h2, spl_zer, h5, h3, List.set_append_right _ _ (Nat.le_refl _), Nat.sub_self]
  simp only [List.set_cons_zero, List.append_assoc, List.cons_append, List.nil_append]
theorem rows_step {vS K vt vd r y a b n : Nat} (h0 : vS = vt + K * vd) (h1 : vS = a * b) {v' : Nat} (h2 : v' + n * r = vd + y * a) : vt + K * v' + K * n * r = a * (b + K * y) := by
  have h3 : K * (v' + n * r) = K * (vd + y * a) := by rw [h2]
  rw [Nat.mul_add, Nat.mul_add] at h3
  rw [Nat.mul_add, Nat.mul_assoc]
  have h4 : a * (K * y) = K * (y * a) := by rw [Nat.mul_comm y a, Nat.mul_left_comm]
  omega

set_option maxRecDepth 100000 in
set_option maxHeartbeats 400000 in
theorem byRows_any (g N : Nat) (A B : Option Addr) (n c m d : Nat) (l k : List Nat) (w : World) (hn : l.length = n) (hm : k.length = m) (hN : N = n + m) (h0 : 0 < n) (hn2 : N ≤ 4000000)
    (hg : Blk w g (zer N)) (hl : WS w A l) (hk : WS w B k) (hoA : Off A l g) (hoB : Off B k g) :
    Calls Tryd.prog 70 #[.slice (some ⟨g, 0, none⟩) N N, .slice A n c, .slice B m d] w fun e w' =>
      ∃ S : List Nat, e = .returned (.tuple #[]) ∧ S.length = N ∧ val S = val l * val k ∧ Blk w' g S ∧ Only g w w' := by
  subst hn hm
  go_enter Tryd.func70, Tryd.ntmps70
  go_wp2_with fail
  go_loopw [10] (fun iv wr => ∃ (i : Nat) (S : List Nat), i ≤ k.length ∧ iv = .int .i64 i ∧ S.length = l.length + i ∧ val S = val l * val (k.take i) ∧ Blk wr g (spl (zer N) 0 S) ∧ Only g w wr) (fun iv _ => k.length - (intOf iv).toNat)
  case atStart => exact ⟨0, zer l.length, Nat.zero_le _, rfl, by simp [zer_length], by simp [val_zer, val], by rw [spl_zer, zer_length, ← zer_append, show l.length + (N - l.length) = N from by omega]; exact hg, only_refl _ _⟩
  case round =>
    obtain ⟨i, S, hi, rfl, hS, hv, hb, hO⟩ := hrel
    by_cases hlt : i < k.length
    · obtain ⟨b, off, rfl, hblt, hc⟩ := (hk.only hO hoB).at_ (by omega)
      have hc1 := hc i hlt
      have hy := hk.lt i
      have H1 := Lib.hid (val_take k hlt)
      have HS := Lib.hid hS
      have HV := Lib.hid hv
      have HN := Lib.hid hN
      have hNi : i + l.length < N := by omega
      have hiN : decide (N = i) = false := by simp; omega
      clear hc hS hv hN
      generalize gd k i = y at *
      go_wp2_with fail
      have hsl : (spl (zer N) 0 S).length = N := by rw [spl_length (by rw [zer_length, HS.out]; omega), zer_length]
      refine (addRow_any g i (N - i) (N - i) (spl (zer N) 0 S) A l.length c l y wr rfl (by omega) (by omega) (by rw [hsl]; omega) hy hb (hl.only hO hoA) hoA).mono ?_
      rintro e w1 ⟨S', r, rfl, hr, hS', hSw', hv', hb', hO'⟩
      have HS' := Lib.hid hS'
      have hsl' : (spl (spl (zer N) 0 S) i S').length = N := by rw [spl_length (by rw [hsl, HS'.out]; omega), hsl]
      have hc2 := hb'.cell (i := i + l.length) (by rw [hsl']; omega)
      have hf2 := hb'.free (i + l.length)
      have hb2 := hb'.set_ (i := i + l.length) hr
      have hrow := spl_row (S := S) (S' := S') (N := N) (i := i) r (by rw [HS'.out, HS.out]; omega) (by rw [HS.out]; omega)
      rw [HS'.out] at hrow
      rw [hrow] at hb2
      have HB2 := Lib.hid hb2
      have hseg : seg (spl (zer N) 0 S) i l.length = S.drop i := by rw [spl_zer]; exact seg_mid (by rw [HS.out]; omega)
      rw [hseg] at hv'
      have HV' := Lib.hid hv'
      clear hv' hb2 hrow hsl hsl' hS' hseg hb'
      generalize gd (spl (spl (zer N) 0 S) i S') (i + l.length) = z at *
      go_wp2_with fail
      go_roundw
      case rel =>
        refine ⟨i + 1, S.take i ++ S' ++ [r], by omega, by go_num, ?_, ?_, HB2.out, (hO.trans hO').set_ (.inl rfl) _⟩
        · rw [List.length_append, List.length_append, List.length_take, HS'.out, HS.out, Nat.min_eq_left (by omega)]; simp; omega
        · have hti : (S.take i).length = i := by rw [List.length_take, HS.out]; omega
          have h0 : val S = val (S.take i) + BB i * val (S.drop i) := by
            have := val_append (S.take i) (S.drop i)
            rwa [List.take_append_drop, hti] at this
          rw [val_snoc, val_append, List.length_append, hti, HS'.out, BB_add, H1.out]
          exact rows_step h0 HV.out HV'.out
      case measure => simp [intOf]; omega
    · have he : i = k.length := by omega
      subst he
      go_wp2_with fail
      go_end0
      rw [List.take_length] at hv
      exact ⟨S, rfl, by omega, hv, by rw [spl_zer, show N - S.length = 0 from by omega] at hb; simpa [zer] using hb, hO⟩

set_option maxRecDepth 100000 in
set_option maxHeartbeats 400000 in
theorem product_le (a w : World) (A B : Option Addr) (n c m d : Nat) (l k : List Nat) (hn : l.length = n) (hm : k.length = m) (hmn : m ≤ n) (hn2 : n ≤ 2000000) (hm2 : m ≤ 48) (hl : WS w A l) (hk : WS w B k) (hw : Below a.heap.size a w) :
    Calls Tryd.prog 50 #[.slice A n c, .slice B m d] w (Res a (val l * val k)) := by
  subst hn hm
  have hne : decide (l.length < k.length) = false := by simp; omega
  by_cases h0 : k.length = 0
  · have e : val l * val k = 0 := by rw [List.eq_nil_of_length_eq_zero h0]; rfl
    rw [e, h0]
    clear e
    rw [h0] at hne
    go_enter Tryd.func50, Tryd.ntmps50
    go_wp2_with fail
    go_ret
    exact ⟨none, 0, [], rfl, Nat.le_refl _, fun h => absurd rfl h, top_nil, rfl, hw⟩
  · have hmk := fun W => run_mk ((l.length : Int) + (k.length : Int)) (l.length + k.length) (by simp) (by omega) W
    have hz : ((k.length : Int) == 0) = false := beq_eq_false_iff_ne.2 (by omega)
    have hle : decide ((k.length : Int) ≤ 48) = true := by simp; omega
    go_enter Tryd.func50, Tryd.ntmps50
    go_wp2_with fail
    refine (byRows_any w.heap.size (l.length + k.length) A B l.length c k.length d l k _ rfl rfl rfl (by omega) (by omega) (Blk.new w _ (zer_lt _)) (hl.below (ba (b0 _) _)) (hk.below (ba (b0 _) _)) (hl.off (Nat.le_refl _)) (hk.off (Nat.le_refl _))).mono ?_
    rintro e w1 ⟨S, rfl, hS, hv, hb, hO⟩
    have HS := Lib.hid hS
    have HV := Lib.hid hv
    clear hS hv
    go_wp2_with fail
    refine (trim_own a _ w.heap.size (l.length + k.length) (l.length + k.length) S (val l * val k) (by omega) (Nat.le_refl _) hw.size hb (by rw [HS.out]; omega) (by rw [← HS.out, List.take_length]; exact HV.out) (bt hw (bo (b0 w) ((Only.mono (ba (b0 _) _)).trans hO) (Nat.le_refl _)))).mono ?_
    rintro e w2 h
    obtain ⟨A', c', l', rfl, hR⟩ := h
    go_wp2_with fail
    go_ret
    exact ⟨A', c', l', rfl, hR⟩

set_option maxRecDepth 100000 in
set_option maxHeartbeats 400000 in
theorem product_lt (a w : World) (A B : Option Addr) (n c m d : Nat) (l k : List Nat) (hn : l.length = n) (hm : k.length = m) (hmn : n < m) (hn2 : m ≤ 2000000) (hm2 : n ≤ 48) (hl : WS w A l) (hk : WS w B k) (hw : Below a.heap.size a w) :
    Calls Tryd.prog 50 #[.slice A n c, .slice B m d] w (Res a (val l * val k)) := by
  subst hn hm
  have hne : decide (l.length < k.length) = true := by simp; omega
  by_cases h0 : l.length = 0
  · have e : val l * val k = 0 := by rw [List.eq_nil_of_length_eq_zero h0]; simp [val]
    rw [e, h0]
    clear e
    rw [h0] at hne
    go_enter Tryd.func50, Tryd.ntmps50
    go_wp2_with fail
    go_ret
    exact ⟨none, 0, [], rfl, Nat.le_refl _, fun h => absurd rfl h, top_nil, rfl, hw⟩
  · have hmk := fun W => run_mk ((k.length : Int) + (l.length : Int)) (k.length + l.length) (by simp) (by omega) W
    have hz : ((l.length : Int) == 0) = false := beq_eq_false_iff_ne.2 (by omega)
    have hle : decide ((l.length : Int) ≤ 48) = true := by simp; omega
    go_enter Tryd.func50, Tryd.ntmps50
    go_wp2_with fail
    refine (byRows_any w.heap.size (k.length + l.length) B A k.length d l.length c k l _ rfl rfl rfl (by omega) (by omega) (Blk.new w _ (zer_lt _)) (hk.below (ba (b0 _) _)) (hl.below (ba (b0 _) _)) (hk.off (Nat.le_refl _)) (hl.off (Nat.le_refl _))).mono ?_
    rintro e w1 ⟨S, rfl, hS, hv, hb, hO⟩
    have HS := Lib.hid hS
    have HV := Lib.hid hv
    clear hS hv
    go_wp2_with fail
    refine (trim_own a _ w.heap.size (k.length + l.length) (k.length + l.length) S (val l * val k) (by omega) (Nat.le_refl _) hw.size hb (by rw [HS.out]; omega) (by rw [← HS.out, List.take_length, Nat.mul_comm (val l)]; exact HV.out) (bt hw (bo (b0 w) ((Only.mono (ba (b0 _) _)).trans hO) (Nat.le_refl _)))).mono ?_
    rintro e w2 h
    obtain ⟨A', c', l', rfl, hR⟩ := h
    go_wp2_with fail
    go_ret
    exact ⟨A', c', l', rfl, hR⟩

theorem product_any48 (a w : World) (A B : Option Addr) (n c m d : Nat) (l k : List Nat) (hn : l.length = n) (hm : k.length = m) (hn2 : n ≤ 48) (hm2 : m ≤ 48) (hl : WS w A l) (hk : WS w B k) (hw : Below a.heap.size a w) :
    Calls Tryd.prog 50 #[.slice A n c, .slice B m d] w (Res a (val l * val k)) := by
  rcases Nat.lt_or_ge n m with h | h
  · exact product_lt a w A B n c m d l k hn hm h (by omega) hn2 hl hk hw
  · exact product_le a w A B n c m d l k hn hm h (by omega) hm2 hl hk hw
/-- A product by at most two words. -/
theorem product_two (a w : World) (A B : Option Addr) (n c m d : Nat) (l k : List Nat) (hn : l.length = n) (hm : k.length = m) (hn2 : n ≤ 1000000) (hm2 : m ≤ 2) (hl : WS w A l) (hk : WS w B k) (hw : Below a.heap.size a w) :
    Calls Tryd.prog 50 #[.slice A n c, .slice B m d] w (Res a (val l * val k)) := by
  rcases Nat.lt_or_ge n m with h | h
  · exact product_lt a w A B n c m d l k hn hm h (by omega) (by omega) hl hk hw
  · exact product_le a w A B n c m d l k hn hm h (by omega) (by omega) hl hk hw
end Go.Proofs.YtaaipcjbmdbndaaDoor
