import Derived.Test.YtgljdfblgpdaaaaGreatDoorTyNumWMul
import Derived.Test.YtgljdfblgpdaaaaGreatDoorTyNumTxt
set_option linter.unusedSimpArgs false
set_option linter.unusedVariables false
set_option maxRecDepth 100000
set_option maxHeartbeats 4000000
namespace Go.Proofs.YtgljdfblgpdaaaaGreatDoor
open Go.RowKit Go.Shelf
theorem one_ws (W : World) (x : Nat) (hx : x < 4294967296) : WS (W.alloc (.cells #[.int .u32 (x : Int)] 83)) (some ⟨W.heap.size, 0, none⟩) [x] := by
  have hone : Blk (W.alloc (.cells #[.int .u32 (x : Int)] 83)) W.heap.size [x] := Blk.new W [x] (by simpa using hx)
  have hws := hone.ws (o := 0) (n := 1) (by simp)
  rwa [List.drop_zero, show List.take 1 [x] = [x] from rfl] at hws
theorem one_ws2 (W : World) (x : Nat) (hx : x < 4294967296) {g : Nat} (hg : g = W.heap.size) : WS (W.alloc (.cells #[.int .u32 (x : Int)] 83)) (some ⟨g, 0, none⟩) [x] := by
  subst hg
  exact one_ws W x hx
theorem len_of_val {l : List Nat} (hT : Top l) {i : Nat} (h : val l < 10 ^ i) : l.length ≤ i := by
  rcases Nat.eq_zero_or_pos l.length with h0 | h0
  · omega
  · have h1 := val_lower hT h0
    have h2 : 10 ^ i ≤ BB i := Nat.pow_le_pow_left (by decide) i
    rcases Nat.lt_or_ge i l.length with h3 | h3
    · have h4 : BB i ≤ BB (l.length - 1) := Nat.pow_le_pow_right (by decide) (by omega)
      omega
    · exact h3
theorem dig_all {s : ByteArray} (hd : ∀ i, i < s.size → 48 ≤ byt s i ∧ byt s i ≤ 57) : ∀ c ∈ s.data.toList, isDg c := fun c hc => by
  obtain ⟨i, hi, rfl⟩ := List.getElem_of_mem hc
  have hi' : i < s.size := by simpa using hi
  have h := hd i hi'
  rw [byt_at hi'] at h
  exact h
theorem dig_take {s : ByteArray} {j : Nat} (hd : ∀ i, i < s.size → 48 ≤ byt s i ∧ byt s i ≤ 57) : dnum (s.data.toList.take j) < 10 ^ j :=
  Nat.lt_of_lt_of_le (dnum_lt _ (fun c hc => dig_all hd c (List.mem_of_mem_take hc))) (Nat.pow_le_pow_right (by decide) (by rw [List.length_take]; omega))
theorem dig_succ {s : ByteArray} {i : Nat} (h : i < s.size) : dnum (s.data.toList.take (i + 1)) = 10 * dnum (s.data.toList.take i) + (s[i].toNat - 48) := by
  have hi : i < s.data.toList.length := by simpa using h
  rw [List.take_succ_eq_append_getElem hi, dnum_snoc]
  rfl
theorem nonempty {s : ByteArray} (h : 0 < s.size) : s.toList.isEmpty = false := by
  rw [ByteArray.toList_eq]
  have h1 : s.data.toList.length = s.size := by simp
  cases h2 : s.data.toList with
  | nil => rw [h2] at h1; simp at h1; omega
  | cons _ _ => rfl
theorem digs_bad {t : ByteArray} {i : Nat} (hi : i < t.size) (h : byt t i < 48 ∨ 57 < byt t i) : digs t = false := by
  rcases Bool.eq_false_or_eq_true (digs t) with h1 | h1
  · exfalso
    unfold digs at h1
    rw [Bool.and_eq_true, decide_eq_true_eq, decide_eq_true_eq] at h1
    have := h1.2 i hi
    omega
  · exact h1
theorem digs_good {t : ByteArray} (hi : 0 < t.size) (h : ∀ i, i < t.size → 48 ≤ byt t i ∧ byt t i ≤ 57) : digs t = true := by
  unfold digs
  rw [Bool.and_eq_true, decide_eq_true_eq, decide_eq_true_eq]
  exact ⟨by omega, h⟩
def RPo (w : World) (ng : Bool) (t : ByteArray) (e : Ending) (w' : World) : Prop :=
  (digs t = true ∧ t.size ≤ 20000 ∧ PResC w (if ng = true then -(dnum t.data.toList : Int) else (dnum t.data.toList : Int)) e w') ∨ (digs t = true ∧ 20000 < t.size ∧ PErr w 2 e w') ∨ (digs t = false ∧ PErr w 3 e w')
set_option maxRecDepth 100000 in
set_option maxHeartbeats 1000000 in
theorem RParse_pos (w : World) (s : ByteArray) (hts : 0 < s.size) (hlen : s.size ≤ 1000000) (h45 : byt s 0 ≠ 45) (h0 : byt s 0 ≠ 48) :
    Calls Tryz.prog 122 #[.string s] w (RPo w false s) := by
  have hb0 := byt_at hts
  rw [hb0] at h0 h45
  have hne : ¬ (s[0].toNat = 45) := by omega
  have hni : ((s[0].toNat : Int) == 45) = false := beq_eq_false_iff_ne.2 (by omega)
  have hn8 : ((s[0].toNat : Int) == 48) = false := beq_eq_false_iff_ne.2 (by omega)
  clear hb0
  have htsi : (0 : Int) < (s.size : Int) := by omega
  have hemp := nonempty hts
  go_enter Tryz.func122, Tryz.ntmps122
  go_wp2_with fail
  have hbx := Box2.new w (.bool false) (.slice none 0 0)
  have hW := ba (b0 w) (.cells #[.bool false, .slice none 0 0] 24)
  obtain ⟨W1, hW1⟩ : ∃ W, W = w.alloc (.cells #[.bool false, .slice none 0 0] 24) := ⟨_, rfl⟩
  rw [← hW1] at hbx hW ⊢
  clear hW1
  have x0 := hbx.cell0
  have x1 := hbx.cell1
  have f0 := hbx.free 0
  have f1 := hbx.free 1
  obtain ⟨k0, k1, k2⟩ := hbx.back (.bool false) (.slice none 0 0)
  go_loopw [6] (fun iv wr => ∃ i : Nat, iv = .int .i64 (i : Int) ∧ i ≤ s.size ∧ Hid (∀ j, j < i → 48 ≤ byt s j ∧ byt s j ≤ 57) ∧ wr = W1) (fun iv _ => s.size - (intOf iv).toNat)
  case atStart => exact ⟨0, rfl, Nat.zero_le _, Lib.hid (fun j hj => absurd hj (by omega)), rfl⟩
  case round =>
    obtain ⟨i, rfl, hi, hdg, hwr⟩ := hrel
    rw [hwr]
    by_cases hlt : i < s.size
    · have hlti : (i : Int) < (s.size : Int) := by omega
      have hb := byt_at hlt
      by_cases hd1 : (s[i].toNat : Int) < 48
      · have HBAD : Hid (digs s = false) := Lib.hid (digs_bad hlt (by rw [hb]; omega))
        clear hb
        go_wp2_with fail
        refine bodyPost_ret (v := .tuple #[.agg #[.bool false, .slice none 0 0], .int .i64 3]) (by simp [results, Tryz.results122, go_sem, k0, k2]) rfl ?_
        exact .inr (.inr ⟨HBAD.out, rfl, b2 hW (by omega) _ _⟩)
      · by_cases hd2 : (57 : Int) < (s[i].toNat : Int)
        · have HBAD : Hid (digs s = false) := Lib.hid (digs_bad hlt (by rw [hb]; omega))
          clear hb
          go_wp2_with fail
          refine bodyPost_ret (v := .tuple #[.agg #[.bool false, .slice none 0 0], .int .i64 3]) (by simp [results, Tryz.results122, go_sem, k0, k2]) rfl ?_
          exact .inr (.inr ⟨HBAD.out, rfl, b2 hW (by omega) _ _⟩)
        · have HGOOD : Hid (∀ j, j < i + 1 → 48 ≤ byt s j ∧ byt s j ≤ 57) := Lib.hid (fun j hj => by
            rcases Nat.lt_or_ge j i with h | h
            · exact hdg.out j h
            · rw [show j = i by omega, hb]; omega)
          clear hb
          go_wp2_with fail
          go_roundw
          case rel => exact ⟨i + 1, by go_num, by omega, HGOOD, trivial⟩
          case measure => simp [intOf]; omega
    · have hnlt : ¬ (i : Int) < (s.size : Int) := by omega
      have HD : Hid (∀ i, i < s.size → 48 ≤ byt s i ∧ byt s i ≤ 57) := Lib.hid (fun j hj => hdg.out j (by omega))
      have HDG : Hid (digs s = true) := Lib.hid (digs_good hts HD.out)
      by_cases hbig : (20000 : Int) < (s.size : Int)
      · go_wp2_with fail
        refine bodyPost_ret (v := .tuple #[.agg #[.bool false, .slice none 0 0], .int .i64 2]) (by simp [results, Tryz.results122, go_sem, k0, k2]) rfl ?_
        exact .inr (.inl ⟨HDG.out, by omega, rfl, b2 hW (by omega) _ _⟩)
      have hlen2 : s.size ≤ 20000 := by omega
      clear x0 x1 f0 f1 k0 k1 k2
      go_wp2_with fail
      go_loopw [7, 8] (fun wv iv wr => ∃ (i : Nat) (A : Option Addr) (c : Nat) (l : List Nat), i ≤ s.size ∧ iv = .int .i64 (i : Int) ∧ wv = .slice A l.length c ∧ l.length ≤ c ∧ WS wr A l ∧ Top l ∧ val l = dnum (s.data.toList.take i) ∧ l.length ≤ 20000 ∧ Below W1.heap.size W1 wr) (fun _ iv _ => s.size - (intOf iv).toNat)
      case atStart => exact ⟨0, none, 0, [], Nat.zero_le _, rfl, rfl, Nat.le_refl _, WS.nil_ _ _, top_nil, rfl, Nat.zero_le _, b0 _⟩
      case round =>
        obtain ⟨i, A, c, l, hi2, rfl, rfl, hlc, hws, hT, hv, hll, hb⟩ := hrel
        by_cases hlt2 : i < s.size
        · have hlti : (i : Int) < (s.size : Int) := by omega
          have hbi := byt_at hlt2
          have hd := HD.out
          have hdi := HD.out i hlt2
          rw [hbi] at hdi
          obtain ⟨x, hx⟩ : ∃ x, x = s[i].toNat - 48 := ⟨_, rfl⟩
          have hxl : x < 10 := by omega
          have hxi : (s[i].toNat : Int) - 48 = (x : Int) := by omega
          have hxw : IntKind.u8.wrap (x : Int) = (x : Int) := by rw [IntKind.wrap_u8]; omega
          have hxw32 : IntKind.u32.wrap (x : Int) = (x : Int) := by rw [IntKind.wrap_u32]; omega
          have hxl32 : x < 4294967296 := by omega
          have HX1 : Hid (val [x] = x) := Lib.hid (by simp [val])
          have HLA : Hid (∀ l', Top l' → val l' = val l * val [10] → l'.length ≤ 1000000) := Lib.hid (fun l' h1 h2 => by
            have h3 := dig_take (j := i) hd
            have h4 : val [10] = 10 := by simp [val]
            have h5 : val l' < 10 ^ (i + 1) := by rw [h2, h4, hv, Nat.pow_succ]; omega
            have := len_of_val h1 h5
            omega)
          have HLB : Hid (∀ l', Top l' → val l' = x → l'.length ≤ 1000000) := Lib.hid (fun l' h1 h2 => by
            have := len_of_val (i := 1) h1 (by omega)
            omega)
          have HDS := Lib.hid (dig_succ (s := s) hlt2)
          have HX := Lib.hid hx
          have HV := Lib.hid hv
          have HWS := Lib.hid hws
          clear hbi hx hv hws hd
          go_wp2_with fail
          go_region_with (first
            | (go_at_call 102; refine (RmulWords_any _ _ _ _ _ _ l [10] _ rfl rfl (by omega) (by decide) (HWS.out.below (by repeat (first | exact b0 _ | refine ba ?_ _ | refine bw ?_ | refine bd ?_ _))) (by first | exact one_ws _ 10 (by decide) | exact one_ws2 _ 10 (by decide) (by simp) | exact (one_ws _ 10 (by decide)).below (by repeat (first | exact b0 _ | refine ba ?_ _ | refine bw ?_ | refine bd ?_ _)))).mono ?_; rintro e w20 ⟨A20, c20, l20, rfl, hc20, hs20, ht20, hv20, hb20⟩; have HL20 := Lib.hid (HLA.out _ ht20 hv20); have HV20 := Lib.hid hv20; have HS20 := Lib.hid hs20; clear hv20 hs20 ht20)
            | (go_at_call 149; refine (trim_wsp _ _ _ _ [x] x (by simp) (by simp) (by first | exact one_ws _ x hxl32 | (refine WS.below ?_ hb20; repeat (first | exact one_ws2 _ x hxl32 (by simp) | refine WS.below ?_ (ba (b0 _) _) | refine WS.below ?_ (bw (b0 _)) | refine WS.below ?_ (bd (b0 _) _)))) HX1.out (b0 _)).mono ?_; rintro e w21 ⟨A21, c21, l21, rfl, hc21, hs21, ht21, hv21, hb21⟩; have HL21 := Lib.hid (HLB.out _ ht21 hv21); have HV21 := Lib.hid hv21; have HS21 := Lib.hid hs21; clear hv21 hs21 ht21)
            | (go_at_call 92; refine (RaddWords_any _ _ _ _ _ _ l20 l21 _ rfl rfl HL20.out HL21.out (HS20.out.below (by repeat (first | exact b0 _ | refine ba ?_ _ | refine bw ?_ | refine bd ?_ _ | refine bt ?_ hb21 | refine bt ?_ hb20))) (HS21.out.below (by repeat (first | exact b0 _ | refine ba ?_ _ | refine bw ?_ | refine bd ?_ _ | refine bt ?_ hb21 | refine bt ?_ hb20)))).mono ?_; rintro e w22 ⟨A22, c22, l22, rfl, hc22, hs22, ht22, hv22, hb22⟩; have HV22 := Lib.hid hv22; have HS22 := Lib.hid hs22; have HT22 := Lib.hid ht22; clear hv22 hs22 ht22))
          all_goals
            go_wp2_with fail
            go_roundw
            case rel =>
              refine ⟨i + 1, A22, c22, l22, by omega, by go_num, rfl, hc22, HS22.out, HT22.out, ?_, ?_, bt (by repeat (first | exact hb | exact b0 _ | refine ba ?_ _ | refine bw ?_ | refine bd ?_ _ | refine bt ?_ hb21 | refine bt ?_ hb20)) hb22⟩
              · rw [HV22.out, HV21.out, HV20.out, HDS.out, HV.out, HX.out, show val [10] = 10 from by simp [val]]; omega
              · have h3 := dig_take (s := s) (j := i + 1) HD.out
                have h4 : val l22 < 10 ^ (i + 1) := by
                  rw [HV22.out, HV21.out, HV20.out, HV.out, show val [10] = 10 from by simp [val]]
                  rw [HDS.out, ← HX.out] at h3
                  omega
                have := len_of_val HT22.out h4
                omega
            case measure => simp [intOf]; omega
        · have hnlt2 : ¬ (i : Int) < (s.size : Int) := by omega
          have hei : i = s.size := by omega
          have hv2 : val l = dnum s.data.toList := by rw [hv, hei, List.take_of_length_le (by simp)]
          have hM := Rmade_any wr wr false A l.length c l rfl (by omega) hlc hws (b0 _)
          have hbx2 := hbx.below hb
          have HM := Lib.hid hM
          have HV := Lib.hid hv2
          clear hM hv hv2 hws hei
          go_wp2_with fail
          refine HM.out.mono ?_
          rintro e w30 ⟨n30, A30, c30, l30, rfl, hc30, hs30, hB30, hz30, hb30⟩
          have hbx3 := hbx2.below hb30
          have hoff := ws_off_box hbx3 (by simp) hs30
          have HZ30 := Lib.hid hz30
          have HB30 := Lib.hid hB30
          have HS30 := Lib.hid hs30
          have HO30 := Lib.hid hoff
          clear hz30 hB30 hs30 hoff
          have z0 := hbx3.cell0
          have z1 := hbx3.cell1
          have zf0 := hbx3.free 0
          have zf1 := hbx3.free 1
          obtain ⟨q0, q1, q2⟩ := hbx3.back (.bool n30) (.slice A30 l30.length c30)
          go_wp2_with fail
          refine bodyPost_ret (v := .tuple #[.agg #[.bool n30, .slice A30 l30.length c30], .int .i64 0]) (by simp [results, Tryz.results122, go_sem, q0, q2]) rfl ?_
          exact .inl ⟨HDG.out, hlen2, n30, A30, c30, l30, rfl, hc30, HS30.out.two HO30.out _ _, HB30.out, by rw [HZ30.out]; show zI false l = (dnum s.data.toList : Int); rw [← HV.out]; rfl, b2 (bt hW (bt hb hb30)) (by omega) _ _⟩
set_option maxRecDepth 100000 in
set_option maxHeartbeats 1000000 in
theorem RParse_zero (w : World) (s : ByteArray) (hts : 0 < s.size) (h1 : s.size = 1) (h48 : byt s 0 = 48) :
    Calls Tryz.prog 122 #[.string s] w (RPo w false s) := by
  have hb0 := byt_at hts
  rw [hb0] at h48
  have hni : ((s[0].toNat : Int) == 45) = false := beq_eq_false_iff_ne.2 (by omega)
  have hn8 : ((s[0].toNat : Int) == 48) = true := beq_iff_eq.2 (by omega)
  have hl1 : ¬ (1 : Int) < (s.size : Int) := by omega
  clear hb0 h1 h48
  have htsi : (0 : Int) < (s.size : Int) := by omega
  have hemp := nonempty hts
  go_enter Tryz.func122, Tryz.ntmps122
  go_wp2_with fail
  have hbx := Box2.new w (.bool false) (.slice none 0 0)
  have hW := ba (b0 w) (.cells #[.bool false, .slice none 0 0] 24)
  obtain ⟨W1, hW1⟩ : ∃ W, W = w.alloc (.cells #[.bool false, .slice none 0 0] 24) := ⟨_, rfl⟩
  rw [← hW1] at hbx hW ⊢
  clear hW1
  have x0 := hbx.cell0
  have x1 := hbx.cell1
  have f0 := hbx.free 0
  have f1 := hbx.free 1
  obtain ⟨k0, k1, k2⟩ := hbx.back (.bool false) (.slice none 0 0)
  go_loopw [6] (fun iv wr => ∃ i : Nat, iv = .int .i64 (i : Int) ∧ i ≤ s.size ∧ Hid (∀ j, j < i → 48 ≤ byt s j ∧ byt s j ≤ 57) ∧ wr = W1) (fun iv _ => s.size - (intOf iv).toNat)
  case atStart => exact ⟨0, rfl, Nat.zero_le _, Lib.hid (fun j hj => absurd hj (by omega)), rfl⟩
  case round =>
    obtain ⟨i, rfl, hi, hdg, hwr⟩ := hrel
    rw [hwr]
    by_cases hlt : i < s.size
    · have hlti : (i : Int) < (s.size : Int) := by omega
      have hb := byt_at hlt
      by_cases hd1 : (s[i].toNat : Int) < 48
      · have HBAD : Hid (digs s = false) := Lib.hid (digs_bad hlt (by rw [hb]; omega))
        clear hb
        go_wp2_with fail
        refine bodyPost_ret (v := .tuple #[.agg #[.bool false, .slice none 0 0], .int .i64 3]) (by simp [results, Tryz.results122, go_sem, k0, k2]) rfl ?_
        exact .inr (.inr ⟨HBAD.out, rfl, b2 hW (by omega) _ _⟩)
      · by_cases hd2 : (57 : Int) < (s[i].toNat : Int)
        · have HBAD : Hid (digs s = false) := Lib.hid (digs_bad hlt (by rw [hb]; omega))
          clear hb
          go_wp2_with fail
          refine bodyPost_ret (v := .tuple #[.agg #[.bool false, .slice none 0 0], .int .i64 3]) (by simp [results, Tryz.results122, go_sem, k0, k2]) rfl ?_
          exact .inr (.inr ⟨HBAD.out, rfl, b2 hW (by omega) _ _⟩)
        · have HGOOD : Hid (∀ j, j < i + 1 → 48 ≤ byt s j ∧ byt s j ≤ 57) := Lib.hid (fun j hj => by
            rcases Nat.lt_or_ge j i with h | h
            · exact hdg.out j h
            · rw [show j = i by omega, hb]; omega)
          clear hb
          go_wp2_with fail
          go_roundw
          case rel => exact ⟨i + 1, by go_num, by omega, HGOOD, trivial⟩
          case measure => simp [intOf]; omega
    · have hnlt : ¬ (i : Int) < (s.size : Int) := by omega
      have HD : Hid (∀ i, i < s.size → 48 ≤ byt s i ∧ byt s i ≤ 57) := Lib.hid (fun j hj => hdg.out j (by omega))
      have HDG : Hid (digs s = true) := Lib.hid (digs_good hts HD.out)
      by_cases hbig : (20000 : Int) < (s.size : Int)
      · exfalso
        omega
      have hlen2 : s.size ≤ 20000 := by omega
      clear x0 x1 f0 f1 k0 k1 k2
      go_wp2_with fail
      go_loopw [7, 8] (fun wv iv wr => ∃ (i : Nat) (A : Option Addr) (c : Nat) (l : List Nat), i ≤ s.size ∧ iv = .int .i64 (i : Int) ∧ wv = .slice A l.length c ∧ l.length ≤ c ∧ WS wr A l ∧ Top l ∧ val l = dnum (s.data.toList.take i) ∧ l.length ≤ 20000 ∧ Below W1.heap.size W1 wr) (fun _ iv _ => s.size - (intOf iv).toNat)
      case atStart => exact ⟨0, none, 0, [], Nat.zero_le _, rfl, rfl, Nat.le_refl _, WS.nil_ _ _, top_nil, rfl, Nat.zero_le _, b0 _⟩
      case round =>
        obtain ⟨i, A, c, l, hi2, rfl, rfl, hlc, hws, hT, hv, hll, hb⟩ := hrel
        by_cases hlt2 : i < s.size
        · have hlti : (i : Int) < (s.size : Int) := by omega
          have hbi := byt_at hlt2
          have hd := HD.out
          have hdi := HD.out i hlt2
          rw [hbi] at hdi
          obtain ⟨x, hx⟩ : ∃ x, x = s[i].toNat - 48 := ⟨_, rfl⟩
          have hxl : x < 10 := by omega
          have hxi : (s[i].toNat : Int) - 48 = (x : Int) := by omega
          have hxw : IntKind.u8.wrap (x : Int) = (x : Int) := by rw [IntKind.wrap_u8]; omega
          have hxw32 : IntKind.u32.wrap (x : Int) = (x : Int) := by rw [IntKind.wrap_u32]; omega
          have hxl32 : x < 4294967296 := by omega
          have HX1 : Hid (val [x] = x) := Lib.hid (by simp [val])
          have HLA : Hid (∀ l', Top l' → val l' = val l * val [10] → l'.length ≤ 1000000) := Lib.hid (fun l' h1 h2 => by
            have h3 := dig_take (j := i) hd
            have h4 : val [10] = 10 := by simp [val]
            have h5 : val l' < 10 ^ (i + 1) := by rw [h2, h4, hv, Nat.pow_succ]; omega
            have := len_of_val h1 h5
            omega)
          have HLB : Hid (∀ l', Top l' → val l' = x → l'.length ≤ 1000000) := Lib.hid (fun l' h1 h2 => by
            have := len_of_val (i := 1) h1 (by omega)
            omega)
          have HDS := Lib.hid (dig_succ (s := s) hlt2)
          have HX := Lib.hid hx
          have HV := Lib.hid hv
          have HWS := Lib.hid hws
          clear hbi hx hv hws hd
          go_wp2_with fail
          go_region_with (first
            | (go_at_call 102; refine (RmulWords_any _ _ _ _ _ _ l [10] _ rfl rfl (by omega) (by decide) (HWS.out.below (by repeat (first | exact b0 _ | refine ba ?_ _ | refine bw ?_ | refine bd ?_ _))) (by first | exact one_ws _ 10 (by decide) | exact one_ws2 _ 10 (by decide) (by simp) | exact (one_ws _ 10 (by decide)).below (by repeat (first | exact b0 _ | refine ba ?_ _ | refine bw ?_ | refine bd ?_ _)))).mono ?_; rintro e w20 ⟨A20, c20, l20, rfl, hc20, hs20, ht20, hv20, hb20⟩; have HL20 := Lib.hid (HLA.out _ ht20 hv20); have HV20 := Lib.hid hv20; have HS20 := Lib.hid hs20; clear hv20 hs20 ht20)
            | (go_at_call 149; refine (trim_wsp _ _ _ _ [x] x (by simp) (by simp) (by first | exact one_ws _ x hxl32 | (refine WS.below ?_ hb20; repeat (first | exact one_ws2 _ x hxl32 (by simp) | refine WS.below ?_ (ba (b0 _) _) | refine WS.below ?_ (bw (b0 _)) | refine WS.below ?_ (bd (b0 _) _)))) HX1.out (b0 _)).mono ?_; rintro e w21 ⟨A21, c21, l21, rfl, hc21, hs21, ht21, hv21, hb21⟩; have HL21 := Lib.hid (HLB.out _ ht21 hv21); have HV21 := Lib.hid hv21; have HS21 := Lib.hid hs21; clear hv21 hs21 ht21)
            | (go_at_call 92; refine (RaddWords_any _ _ _ _ _ _ l20 l21 _ rfl rfl HL20.out HL21.out (HS20.out.below (by repeat (first | exact b0 _ | refine ba ?_ _ | refine bw ?_ | refine bd ?_ _ | refine bt ?_ hb21 | refine bt ?_ hb20))) (HS21.out.below (by repeat (first | exact b0 _ | refine ba ?_ _ | refine bw ?_ | refine bd ?_ _ | refine bt ?_ hb21 | refine bt ?_ hb20)))).mono ?_; rintro e w22 ⟨A22, c22, l22, rfl, hc22, hs22, ht22, hv22, hb22⟩; have HV22 := Lib.hid hv22; have HS22 := Lib.hid hs22; have HT22 := Lib.hid ht22; clear hv22 hs22 ht22))
          all_goals
            go_wp2_with fail
            go_roundw
            case rel =>
              refine ⟨i + 1, A22, c22, l22, by omega, by go_num, rfl, hc22, HS22.out, HT22.out, ?_, ?_, bt (by repeat (first | exact hb | exact b0 _ | refine ba ?_ _ | refine bw ?_ | refine bd ?_ _ | refine bt ?_ hb21 | refine bt ?_ hb20)) hb22⟩
              · rw [HV22.out, HV21.out, HV20.out, HDS.out, HV.out, HX.out, show val [10] = 10 from by simp [val]]; omega
              · have h3 := dig_take (s := s) (j := i + 1) HD.out
                have h4 : val l22 < 10 ^ (i + 1) := by
                  rw [HV22.out, HV21.out, HV20.out, HV.out, show val [10] = 10 from by simp [val]]
                  rw [HDS.out, ← HX.out] at h3
                  omega
                have := len_of_val HT22.out h4
                omega
            case measure => simp [intOf]; omega
        · have hnlt2 : ¬ (i : Int) < (s.size : Int) := by omega
          have hei : i = s.size := by omega
          have hv2 : val l = dnum s.data.toList := by rw [hv, hei, List.take_of_length_le (by simp)]
          have hM := Rmade_any wr wr false A l.length c l rfl (by omega) hlc hws (b0 _)
          have hbx2 := hbx.below hb
          have HM := Lib.hid hM
          have HV := Lib.hid hv2
          clear hM hv hv2 hws hei
          go_wp2_with fail
          refine HM.out.mono ?_
          rintro e w30 ⟨n30, A30, c30, l30, rfl, hc30, hs30, hB30, hz30, hb30⟩
          have hbx3 := hbx2.below hb30
          have hoff := ws_off_box hbx3 (by simp) hs30
          have HZ30 := Lib.hid hz30
          have HB30 := Lib.hid hB30
          have HS30 := Lib.hid hs30
          have HO30 := Lib.hid hoff
          clear hz30 hB30 hs30 hoff
          have z0 := hbx3.cell0
          have z1 := hbx3.cell1
          have zf0 := hbx3.free 0
          have zf1 := hbx3.free 1
          obtain ⟨q0, q1, q2⟩ := hbx3.back (.bool n30) (.slice A30 l30.length c30)
          go_wp2_with fail
          refine bodyPost_ret (v := .tuple #[.agg #[.bool n30, .slice A30 l30.length c30], .int .i64 0]) (by simp [results, Tryz.results122, go_sem, q0, q2]) rfl ?_
          exact .inl ⟨HDG.out, hlen2, n30, A30, c30, l30, rfl, hc30, HS30.out.two HO30.out _ _, HB30.out, by rw [HZ30.out]; show zI false l = (dnum s.data.toList : Int); rw [← HV.out]; rfl, b2 (bt hW (bt hb hb30)) (by omega) _ _⟩
set_option maxRecDepth 100000 in
set_option maxHeartbeats 1000000 in
theorem RParse_neg (w : World) (s t : ByteArray) (hte : s.extract 1 s.size = t) (hs : 0 < s.size) (hts : 0 < t.size) (hlen : t.size ≤ 1000000) (h45 : s[0].toNat = 45) (h0 : byt t 0 ≠ 48) :
    Calls Tryz.prog 122 #[.string s] w (RPo w true t) := by
  have hb0 := byt_at hts
  rw [hb0] at h0
  have hsi : (0 : Int) < (s.size : Int) := by omega
  have hs1 : 1 ≤ s.size := hs
  have hni : ((s[0].toNat : Int) == 45) = true := beq_iff_eq.2 (by omega)
  have hn8 : ((t[0].toNat : Int) == 48) = false := beq_eq_false_iff_ne.2 (by omega)
  clear hb0 h45
  have htsi : (0 : Int) < (t.size : Int) := by omega
  have hemp := nonempty hts
  go_enter Tryz.func122, Tryz.ntmps122
  go_wp2_with fail
  have hbx := Box2.new w (.bool false) (.slice none 0 0)
  have hW := ba (b0 w) (.cells #[.bool false, .slice none 0 0] 24)
  obtain ⟨W1, hW1⟩ : ∃ W, W = w.alloc (.cells #[.bool false, .slice none 0 0] 24) := ⟨_, rfl⟩
  rw [← hW1] at hbx hW ⊢
  clear hW1
  have x0 := hbx.cell0
  have x1 := hbx.cell1
  have f0 := hbx.free 0
  have f1 := hbx.free 1
  obtain ⟨k0, k1, k2⟩ := hbx.back (.bool false) (.slice none 0 0)
  go_loopw [6] (fun iv wr => ∃ i : Nat, iv = .int .i64 (i : Int) ∧ i ≤ t.size ∧ Hid (∀ j, j < i → 48 ≤ byt t j ∧ byt t j ≤ 57) ∧ wr = W1) (fun iv _ => t.size - (intOf iv).toNat)
  case atStart => exact ⟨0, rfl, Nat.zero_le _, Lib.hid (fun j hj => absurd hj (by omega)), rfl⟩
  case round =>
    obtain ⟨i, rfl, hi, hdg, hwr⟩ := hrel
    rw [hwr]
    by_cases hlt : i < t.size
    · have hlti : (i : Int) < (t.size : Int) := by omega
      have hb := byt_at hlt
      by_cases hd1 : (t[i].toNat : Int) < 48
      · have HBAD : Hid (digs t = false) := Lib.hid (digs_bad hlt (by rw [hb]; omega))
        clear hb
        go_wp2_with fail
        refine bodyPost_ret (v := .tuple #[.agg #[.bool false, .slice none 0 0], .int .i64 3]) (by simp [results, Tryz.results122, go_sem, k0, k2]) rfl ?_
        exact .inr (.inr ⟨HBAD.out, rfl, b2 hW (by omega) _ _⟩)
      · by_cases hd2 : (57 : Int) < (t[i].toNat : Int)
        · have HBAD : Hid (digs t = false) := Lib.hid (digs_bad hlt (by rw [hb]; omega))
          clear hb
          go_wp2_with fail
          refine bodyPost_ret (v := .tuple #[.agg #[.bool false, .slice none 0 0], .int .i64 3]) (by simp [results, Tryz.results122, go_sem, k0, k2]) rfl ?_
          exact .inr (.inr ⟨HBAD.out, rfl, b2 hW (by omega) _ _⟩)
        · have HGOOD : Hid (∀ j, j < i + 1 → 48 ≤ byt t j ∧ byt t j ≤ 57) := Lib.hid (fun j hj => by
            rcases Nat.lt_or_ge j i with h | h
            · exact hdg.out j h
            · rw [show j = i by omega, hb]; omega)
          clear hb
          go_wp2_with fail
          go_roundw
          case rel => exact ⟨i + 1, by go_num, by omega, HGOOD, trivial⟩
          case measure => simp [intOf]; omega
    · have hnlt : ¬ (i : Int) < (t.size : Int) := by omega
      have HD : Hid (∀ i, i < t.size → 48 ≤ byt t i ∧ byt t i ≤ 57) := Lib.hid (fun j hj => hdg.out j (by omega))
      have HDG : Hid (digs t = true) := Lib.hid (digs_good hts HD.out)
      by_cases hbig : (20000 : Int) < (t.size : Int)
      · go_wp2_with fail
        refine bodyPost_ret (v := .tuple #[.agg #[.bool false, .slice none 0 0], .int .i64 2]) (by simp [results, Tryz.results122, go_sem, k0, k2]) rfl ?_
        exact .inr (.inl ⟨HDG.out, by omega, rfl, b2 hW (by omega) _ _⟩)
      have hlen2 : t.size ≤ 20000 := by omega
      clear x0 x1 f0 f1 k0 k1 k2
      go_wp2_with fail
      go_loopw [7, 8] (fun wv iv wr => ∃ (i : Nat) (A : Option Addr) (c : Nat) (l : List Nat), i ≤ t.size ∧ iv = .int .i64 (i : Int) ∧ wv = .slice A l.length c ∧ l.length ≤ c ∧ WS wr A l ∧ Top l ∧ val l = dnum (t.data.toList.take i) ∧ l.length ≤ 20000 ∧ Below W1.heap.size W1 wr) (fun _ iv _ => t.size - (intOf iv).toNat)
      case atStart => exact ⟨0, none, 0, [], Nat.zero_le _, rfl, rfl, Nat.le_refl _, WS.nil_ _ _, top_nil, rfl, Nat.zero_le _, b0 _⟩
      case round =>
        obtain ⟨i, A, c, l, hi2, rfl, rfl, hlc, hws, hT, hv, hll, hb⟩ := hrel
        by_cases hlt2 : i < t.size
        · have hlti : (i : Int) < (t.size : Int) := by omega
          have hbi := byt_at hlt2
          have hd := HD.out
          have hdi := HD.out i hlt2
          rw [hbi] at hdi
          obtain ⟨x, hx⟩ : ∃ x, x = t[i].toNat - 48 := ⟨_, rfl⟩
          have hxl : x < 10 := by omega
          have hxi : (t[i].toNat : Int) - 48 = (x : Int) := by omega
          have hxw : IntKind.u8.wrap (x : Int) = (x : Int) := by rw [IntKind.wrap_u8]; omega
          have hxw32 : IntKind.u32.wrap (x : Int) = (x : Int) := by rw [IntKind.wrap_u32]; omega
          have hxl32 : x < 4294967296 := by omega
          have HX1 : Hid (val [x] = x) := Lib.hid (by simp [val])
          have HLA : Hid (∀ l', Top l' → val l' = val l * val [10] → l'.length ≤ 1000000) := Lib.hid (fun l' h1 h2 => by
            have h3 := dig_take (j := i) hd
            have h4 : val [10] = 10 := by simp [val]
            have h5 : val l' < 10 ^ (i + 1) := by rw [h2, h4, hv, Nat.pow_succ]; omega
            have := len_of_val h1 h5
            omega)
          have HLB : Hid (∀ l', Top l' → val l' = x → l'.length ≤ 1000000) := Lib.hid (fun l' h1 h2 => by
            have := len_of_val (i := 1) h1 (by omega)
            omega)
          have HDS := Lib.hid (dig_succ (s := t) hlt2)
          have HX := Lib.hid hx
          have HV := Lib.hid hv
          have HWS := Lib.hid hws
          clear hbi hx hv hws hd
          go_wp2_with fail
          go_region_with (first
            | (go_at_call 102; refine (RmulWords_any _ _ _ _ _ _ l [10] _ rfl rfl (by omega) (by decide) (HWS.out.below (by repeat (first | exact b0 _ | refine ba ?_ _ | refine bw ?_ | refine bd ?_ _))) (by first | exact one_ws _ 10 (by decide) | exact one_ws2 _ 10 (by decide) (by simp) | exact (one_ws _ 10 (by decide)).below (by repeat (first | exact b0 _ | refine ba ?_ _ | refine bw ?_ | refine bd ?_ _)))).mono ?_; rintro e w20 ⟨A20, c20, l20, rfl, hc20, hs20, ht20, hv20, hb20⟩; have HL20 := Lib.hid (HLA.out _ ht20 hv20); have HV20 := Lib.hid hv20; have HS20 := Lib.hid hs20; clear hv20 hs20 ht20)
            | (go_at_call 149; refine (trim_wsp _ _ _ _ [x] x (by simp) (by simp) (by first | exact one_ws _ x hxl32 | (refine WS.below ?_ hb20; repeat (first | exact one_ws2 _ x hxl32 (by simp) | refine WS.below ?_ (ba (b0 _) _) | refine WS.below ?_ (bw (b0 _)) | refine WS.below ?_ (bd (b0 _) _)))) HX1.out (b0 _)).mono ?_; rintro e w21 ⟨A21, c21, l21, rfl, hc21, hs21, ht21, hv21, hb21⟩; have HL21 := Lib.hid (HLB.out _ ht21 hv21); have HV21 := Lib.hid hv21; have HS21 := Lib.hid hs21; clear hv21 hs21 ht21)
            | (go_at_call 92; refine (RaddWords_any _ _ _ _ _ _ l20 l21 _ rfl rfl HL20.out HL21.out (HS20.out.below (by repeat (first | exact b0 _ | refine ba ?_ _ | refine bw ?_ | refine bd ?_ _ | refine bt ?_ hb21 | refine bt ?_ hb20))) (HS21.out.below (by repeat (first | exact b0 _ | refine ba ?_ _ | refine bw ?_ | refine bd ?_ _ | refine bt ?_ hb21 | refine bt ?_ hb20)))).mono ?_; rintro e w22 ⟨A22, c22, l22, rfl, hc22, hs22, ht22, hv22, hb22⟩; have HV22 := Lib.hid hv22; have HS22 := Lib.hid hs22; have HT22 := Lib.hid ht22; clear hv22 hs22 ht22))
          all_goals
            go_wp2_with fail
            go_roundw
            case rel =>
              refine ⟨i + 1, A22, c22, l22, by omega, by go_num, rfl, hc22, HS22.out, HT22.out, ?_, ?_, bt (by repeat (first | exact hb | exact b0 _ | refine ba ?_ _ | refine bw ?_ | refine bd ?_ _ | refine bt ?_ hb21 | refine bt ?_ hb20)) hb22⟩
              · rw [HV22.out, HV21.out, HV20.out, HDS.out, HV.out, HX.out, show val [10] = 10 from by simp [val]]; omega
              · have h3 := dig_take (s := t) (j := i + 1) HD.out
                have h4 : val l22 < 10 ^ (i + 1) := by
                  rw [HV22.out, HV21.out, HV20.out, HV.out, show val [10] = 10 from by simp [val]]
                  rw [HDS.out, ← HX.out] at h3
                  omega
                have := len_of_val HT22.out h4
                omega
            case measure => simp [intOf]; omega
        · have hnlt2 : ¬ (i : Int) < (t.size : Int) := by omega
          have hei : i = t.size := by omega
          have hv2 : val l = dnum t.data.toList := by rw [hv, hei, List.take_of_length_le (by simp)]
          have hM := Rmade_any wr wr true A l.length c l rfl (by omega) hlc hws (b0 _)
          have hbx2 := hbx.below hb
          have HM := Lib.hid hM
          have HV := Lib.hid hv2
          clear hM hv hv2 hws hei
          go_wp2_with fail
          refine HM.out.mono ?_
          rintro e w30 ⟨n30, A30, c30, l30, rfl, hc30, hs30, hB30, hz30, hb30⟩
          have hbx3 := hbx2.below hb30
          have hoff := ws_off_box hbx3 (by simp) hs30
          have HZ30 := Lib.hid hz30
          have HB30 := Lib.hid hB30
          have HS30 := Lib.hid hs30
          have HO30 := Lib.hid hoff
          clear hz30 hB30 hs30 hoff
          have z0 := hbx3.cell0
          have z1 := hbx3.cell1
          have zf0 := hbx3.free 0
          have zf1 := hbx3.free 1
          obtain ⟨q0, q1, q2⟩ := hbx3.back (.bool n30) (.slice A30 l30.length c30)
          go_wp2_with fail
          refine bodyPost_ret (v := .tuple #[.agg #[.bool n30, .slice A30 l30.length c30], .int .i64 0]) (by simp [results, Tryz.results122, go_sem, q0, q2]) rfl ?_
          exact .inl ⟨HDG.out, hlen2, n30, A30, c30, l30, rfl, hc30, HS30.out.two HO30.out _ _, HB30.out, by rw [HZ30.out]; show zI true l = (-(dnum t.data.toList : Int)); rw [← HV.out]; rfl, b2 (bt hW (bt hb hb30)) (by omega) _ _⟩
set_option maxRecDepth 100000 in
set_option maxHeartbeats 1000000 in
theorem RParse_e1 (w : World) (s : ByteArray) (hs : s.toList = []) :
    Calls Tryz.prog 122 #[.string s] w (PErr w 3) := by
  have hz : s.size = 0 := by
    rw [ByteArray.toList_eq] at hs
    have : s.data.toList.length = 0 := by rw [hs]; rfl
    simpa using this
  have hsi : ¬ (0 : Int) < (s.size : Int) := by omega
  have hemp : s.toList.isEmpty = true := by rw [hs]; rfl
  clear hs hz
  go_enter Tryz.func122, Tryz.ntmps122
  have hbx := Box2.new w (.bool false) (.slice none 0 0)
  have hW := ba (b0 w) (.cells #[.bool false, .slice none 0 0] 24)
  go_wp2_with fail
  obtain ⟨k0, k1, k2⟩ := hbx.back (.bool false) (.slice none 0 0)
  refine bodyPost_ret (v := .tuple #[.agg #[.bool false, .slice none 0 0], .int .i64 3]) (by simp [results, Tryz.results122, go_sem, k0, k2]) rfl ?_
  exact ⟨rfl, hW⟩
set_option maxRecDepth 100000 in
set_option maxHeartbeats 1000000 in
theorem RParse_e2 (w : World) (s : ByteArray) (hts : 0 < s.size) (h1 : 1 < s.size) (h48 : byt s 0 = 48) :
    Calls Tryz.prog 122 #[.string s] w (PErr w 3) := by
  have hb0 := byt_at hts
  rw [hb0] at h48
  have hsi : (0 : Int) < (s.size : Int) := by omega
  have hni : ((s[0].toNat : Int) == 45) = false := beq_eq_false_iff_ne.2 (by omega)
  have hn8 : ((s[0].toNat : Int) == 48) = true := beq_iff_eq.2 (by omega)
  have hl1 : (1 : Int) < (s.size : Int) := by omega
  have hemp := nonempty hts
  clear hb0 h48
  go_enter Tryz.func122, Tryz.ntmps122
  have hbx := Box2.new w (.bool false) (.slice none 0 0)
  have hW := ba (b0 w) (.cells #[.bool false, .slice none 0 0] 24)
  go_wp2_with fail
  obtain ⟨k0, k1, k2⟩ := hbx.back (.bool false) (.slice none 0 0)
  refine bodyPost_ret (v := .tuple #[.agg #[.bool false, .slice none 0 0], .int .i64 3]) (by simp [results, Tryz.results122, go_sem, k0, k2]) rfl ?_
  exact ⟨rfl, hW⟩
set_option maxRecDepth 100000 in
set_option maxHeartbeats 1000000 in
theorem RParse_e3 (w : World) (s t : ByteArray) (hte : s.extract 1 s.size = t) (hs : 0 < s.size) (hts : t.toList = []) (h45 : s[0].toNat = 45) :
    Calls Tryz.prog 122 #[.string s] w (PErr w 3) := by
  have hsi : (0 : Int) < (s.size : Int) := by omega
  have hs1 : 1 ≤ s.size := hs
  have hni : ((s[0].toNat : Int) == 45) = true := beq_iff_eq.2 (by omega)
  have hemp : t.toList.isEmpty = true := by rw [hts]; rfl
  clear h45 hts
  go_enter Tryz.func122, Tryz.ntmps122
  have hbx := Box2.new w (.bool false) (.slice none 0 0)
  have hW := ba (b0 w) (.cells #[.bool false, .slice none 0 0] 24)
  go_wp2_with fail
  obtain ⟨k0, k1, k2⟩ := hbx.back (.bool false) (.slice none 0 0)
  refine bodyPost_ret (v := .tuple #[.agg #[.bool false, .slice none 0 0], .int .i64 3]) (by simp [results, Tryz.results122, go_sem, k0, k2]) rfl ?_
  exact ⟨rfl, hW⟩
set_option maxRecDepth 100000 in
set_option maxHeartbeats 1000000 in
theorem RParse_e4 (w : World) (s t : ByteArray) (hte : s.extract 1 s.size = t) (hs : 0 < s.size) (hts : 0 < t.size) (h45 : s[0].toNat = 45) (h48 : byt t 0 = 48) :
    Calls Tryz.prog 122 #[.string s] w (PErr w 3) := by
  have hb0 := byt_at hts
  rw [hb0] at h48
  have hsi : (0 : Int) < (s.size : Int) := by omega
  have htsi : (0 : Int) < (t.size : Int) := by omega
  have hs1 : 1 ≤ s.size := hs
  have hni : ((s[0].toNat : Int) == 45) = true := beq_iff_eq.2 (by omega)
  have hn8 : ((t[0].toNat : Int) == 48) = true := beq_iff_eq.2 (by omega)
  have hemp := nonempty hts
  clear hb0 h45 h48
  go_enter Tryz.func122, Tryz.ntmps122
  have hbx := Box2.new w (.bool false) (.slice none 0 0)
  have hW := ba (b0 w) (.cells #[.bool false, .slice none 0 0] 24)
  go_wp2_with fail
  obtain ⟨k0, k1, k2⟩ := hbx.back (.bool false) (.slice none 0 0)
  refine bodyPost_ret (v := .tuple #[.agg #[.bool false, .slice none 0 0], .int .i64 3]) (by simp [results, Tryz.results122, go_sem, k0, k2]) rfl ?_
  exact ⟨rfl, hW⟩
end Go.Proofs.YtgljdfblgpdaaaaGreatDoor
