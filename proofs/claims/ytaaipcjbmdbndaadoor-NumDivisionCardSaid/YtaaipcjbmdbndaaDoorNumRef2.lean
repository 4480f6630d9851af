/- The specification of num: Same and Of. -/
import Derived.Test.YtaaipcjbmdbndaaDoorNumRef
import Derived.Test.YtaaipcjbmdbndaaDoorNumCmp
namespace Go.Proofs.YtaaipcjbmdbndaaDoor
open Go.RowKit

theorem list_eq_gd {l k : List Nat} (h : l.length = k.length) (hg : ∀ j, j < l.length → gd l j = gd k j) : l = k := by
  refine List.ext_getElem h fun j h1 h2 => ?_
  have := hg j h1
  rwa [gd_at h1, gd_at h2] at this

set_option maxRecDepth 100000 in
set_option maxHeartbeats 1000000 in
theorem RSame_any (na nb : Bool) (A B : Option Addr) (n c m d : Nat) (l k : List Nat) (w : World) (hn : l.length = n) (hm : k.length = m) (hn2 : n ≤ 4000000) (hm2 : m ≤ 4000000) (hl : WS w A l) (hk : WS w B k) :
    Calls Tryd.prog 13 #[.agg #[.bool na, .slice A n c], .agg #[.bool nb, .slice B m d]] w fun e w' => e = .returned (.bool (na == nb && decide (l = k))) ∧ Below w.heap.size w w' := by
  subst hn hm
  by_cases h1 : na = nb
  · subst h1
    by_cases h2 : l.length = k.length
    · have e1 : ((l.length : Int) != (k.length : Int)) = false := by simp; omega
      have H2 := Lib.hid h2
      clear h2
      go_enter Tryd.func13, Tryd.ntmps13
      go_wp2_with fail
      obtain ⟨W1, hW1⟩ : ∃ W, W = (w.alloc (.cells #[.bool na, .slice A l.length c] 24)).alloc (.cells #[.bool na, .slice B k.length d] 24) := ⟨_, rfl⟩
      have x0 : Box2 W1 w.heap.size (.bool na) (.slice A l.length c) := by rw [hW1]; exact (Box2.new w _ _).alloc _
      have x1 : Box2 W1 (w.heap.size + 1) (.bool na) (.slice B k.length d) := by
        rw [hW1]
        have h := Box2.new (w.alloc (.cells #[.bool na, .slice A l.length c] 24)) (.bool na) (.slice B k.length d)
        rwa [World.size_alloc] at h
      have hw1 : Below w.heap.size w W1 := by rw [hW1]; exact ba (ba (b0 _) _) _
      rw [← hW1]
      have hl1 := hl.below hw1
      have hk1 := hk.below hw1
      have HB := Lib.hid hw1
      clear hW1 hl hk hw1
      go_loopw [5] (fun iv wr => ∃ i : Nat, iv = .int .i64 (i : Int) ∧ i ≤ l.length ∧ (∀ j, j < i → gd l j = gd k j) ∧ Below W1.heap.size W1 wr) (fun iv _ => l.length - (intOf iv).toNat)
      case atStart => exact ⟨0, rfl, Nat.zero_le _, fun j hj => absurd hj (by omega), b0 _⟩
      case round =>
        obtain ⟨i, rfl, hi, hpre, hwr⟩ := hrel
        have HPR := Lib.hid hpre
        clear hpre
        have c0 := (x0.below hwr).cell1
        have c1 := (x1.below hwr).cell1
        rcases Nat.lt_or_ge i l.length with hlt | hge
        · have hlti : (i : Int) < (l.length : Int) := by omega
          obtain ⟨b, off, rfl, hb1, hc1⟩ := (hl1.below hwr).at_ (by omega)
          obtain ⟨b', off', rfl, hb2, hc2⟩ := (hk1.below hwr).at_ (by have := H2.out; omega)
          have d1 := hc1 i hlt
          have d2 := hc2 i (by have := H2.out; omega)
          have hltk : (i : Int) < (k.length : Int) := by have := H2.out; omega
          have hx := hl1.lt i
          have hy := hk1.lt i
          clear hc1 hc2
          by_cases hg : gd l i = gd k i
          · have HG := Lib.hid hg
            have hne : (((gd l i : Nat) : Int) != ((gd k i : Nat) : Int)) = false := by rw [hg]; simp
            clear hg
            go_wp2_with fail
            go_quiet (fail)
            go_wp2_with fail
            go_roundw
            case rel =>
              refine ⟨i + 1, by go_num, by omega, fun j hj => ?_, bd hwr _⟩
              rcases Nat.lt_or_ge j i with h | h
              · exact HPR.out j h
              · rw [show j = i from by omega]; exact HG.out
            case measure => simp [intOf]; omega
          · have HG := Lib.hid hg
            have hne : (((gd l i : Nat) : Int) != ((gd k i : Nat) : Int)) = true := by simp; omega
            clear hg
            go_wp2_with fail
            go_quiet (fail)
            go_wp2_with fail
            go_ret
            exact ⟨ret_bool (by have : l ≠ k := fun h => HG.out (by rw [h]); simp [this]), bd (bt HB.out hwr) _⟩
        · have hnlt : ¬ (i : Int) < (l.length : Int) := by omega
          go_wp2_with fail
          go_ret
          exact ⟨ret_bool (by have : l = k := list_eq_gd H2.out (fun j hj => HPR.out j (by omega)); simp [this]), bt HB.out hwr⟩
    · have e1 : ((l.length : Int) != (k.length : Int)) = true := by simp; omega
      have hne : l ≠ k := fun h => h2 (by rw [h])
      have HN := Lib.hid hne
      clear hne
      go_enter Tryd.func13, Tryd.ntmps13
      go_wp2_with fail
      go_ret
      exact ⟨ret_bool (by have := HN.out; simp [this]), ba (ba (b0 _) _) _⟩
  · have e1 : (na != nb) = true := by simpa using h1
    have H1 := Lib.hid h1
    clear h1
    go_enter Tryd.func13, Tryd.ntmps13
    go_wp2_with fail
    go_ret
    exact ⟨ret_bool (by have := H1.out; simp [this]), ba (ba (b0 _) _) _⟩
end Go.Proofs.YtaaipcjbmdbndaaDoor

/- The specification of num: Of and cmpWords. -/
namespace Go.Proofs.YtaaipcjbmdbndaaDoor
open Go.RowKit

set_option maxRecDepth 100000 in
set_option maxHeartbeats 400000 in
theorem ROf_pos (a w : World) (x : Nat) (hx : x < 9223372036854775808) (hw : Below a.heap.size a w) :
    Calls Tryd.prog 36 #[.int .i64 (x : Int)] w (WRes a (x : Int)) := by
  have hlt0 : decide ((x : Int) < 0) = false := by simp
  have hd : x / 4294967296 < 4294967296 := by omega
  have hmd : x % 4294967296 < 4294967296 := Nat.mod_lt _ (by decide)
  go_enter Tryd.func36, Tryd.ntmps36
  go_wp2_with fail
  rw [show (#[Value.int IntKind.u32 (↑x % 4294967296), Value.int IntKind.u32 (↑x / 4294967296)] : Array Value) = words [x % 4294967296, x / 4294967296] from by simp [words]]
  have hbx := (Box2.new w (.bool false) (.slice none 0 0)).alloc (.cells (words [x % 4294967296, x / 4294967296]) 58)
  have hwd := Blk.new (w.alloc (.cells #[.bool false, .slice none 0 0] 24)) [x % 4294967296, x / 4294967296] (by simp; omega)
  rw [World.size_alloc] at hwd
  have hws := hwd.ws (o := 0) (n := 2) (by simp)
  rw [List.drop_zero, show List.take 2 [x % 4294967296, x / 4294967296] = [x % 4294967296, x / 4294967296] from rfl] at hws
  refine (Rmade_any _ _ false _ 2 2 [x % 4294967296, x / 4294967296] rfl (by omega) (by omega) hws (b0 _)).mono ?_
  rintro e w3 ⟨ng, A3, c3, l3, rfl, hc3, hl3, hB3, hz3, hb3⟩
  have HZ3 := Lib.hid hz3
  have HB3 := Lib.hid hB3
  clear hz3 hB3
  have hbx3 := hbx.below hb3
  have x0 := hbx3.cell0
  have x1 := hbx3.cell1
  have f0 := hbx3.free 0
  have f1 := hbx3.free 1
  obtain ⟨k0, k1, k2⟩ := hbx3.back (.bool ng) (.slice A3 l3.length c3)
  go_wp2_with fail
  refine bodyPost_ret (v := .agg #[.bool ng, .slice A3 l3.length c3]) (by simp [results, Tryd.results36, go_sem, k0, k2]) rfl ?_
  have hof := ws_off_box hbx3 (by simp) hl3
  refine ⟨ng, A3, c3, l3, rfl, hc3, hl3.two hof _ _, HB3.out, ?_, b2 (bt (ba (ba hw _) _) hb3) (by have := hw.size; omega) _ _⟩
  rw [HZ3.out]
  simp [zI, val]
  omega

set_option maxRecDepth 100000 in
set_option maxHeartbeats 400000 in
theorem ROf_neg (a w : World) (x : Nat) (h0 : 0 < x) (hx : x ≤ 9223372036854775808) (hw : Below a.heap.size a w) :
    Calls Tryd.prog 36 #[.int .i64 (-(x : Int))] w (WRes a (-(x : Int))) := by
  have hlt0 : decide (-(x : Int) < 0) = true := by simp; omega
  have e1 := wrap_neg x h0 hx
  have e2 := wrap_neg2 x h0 hx
  have hd : x / 4294967296 < 4294967296 := by omega
  have hmd : x % 4294967296 < 4294967296 := Nat.mod_lt _ (by decide)
  go_enter Tryd.func36, Tryd.ntmps36
  go_wp2_with fail
  rw [show (#[Value.int IntKind.u32 (↑x % 4294967296), Value.int IntKind.u32 (↑x / 4294967296)] : Array Value) = words [x % 4294967296, x / 4294967296] from by simp [words]]
  have hbx := (Box2.new w (.bool false) (.slice none 0 0)).alloc (.cells (words [x % 4294967296, x / 4294967296]) 58)
  have hwd := Blk.new (w.alloc (.cells #[.bool false, .slice none 0 0] 24)) [x % 4294967296, x / 4294967296] (by simp; omega)
  rw [World.size_alloc] at hwd
  have hws := hwd.ws (o := 0) (n := 2) (by simp)
  rw [List.drop_zero, show List.take 2 [x % 4294967296, x / 4294967296] = [x % 4294967296, x / 4294967296] from rfl] at hws
  refine (Rmade_any _ _ true _ 2 2 [x % 4294967296, x / 4294967296] rfl (by omega) (by omega) hws (b0 _)).mono ?_
  rintro e w3 ⟨ng, A3, c3, l3, rfl, hc3, hl3, hB3, hz3, hb3⟩
  have HZ3 := Lib.hid hz3
  have HB3 := Lib.hid hB3
  clear hz3 hB3
  have hbx3 := hbx.below hb3
  have x0 := hbx3.cell0
  have x1 := hbx3.cell1
  have f0 := hbx3.free 0
  have f1 := hbx3.free 1
  obtain ⟨k0, k1, k2⟩ := hbx3.back (.bool ng) (.slice A3 l3.length c3)
  go_wp2_with fail
  refine bodyPost_ret (v := .agg #[.bool ng, .slice A3 l3.length c3]) (by simp [results, Tryd.results36, go_sem, k0, k2]) rfl ?_
  have hof := ws_off_box hbx3 (by simp) hl3
  refine ⟨ng, A3, c3, l3, rfl, hc3, hl3.two hof _ _, HB3.out, ?_, b2 (bt (ba (ba hw _) _) hb3) (by have := hw.size; omega) _ _⟩
  rw [HZ3.out]
  simp [zI, val]
  omega

theorem ROf_any (a w : World) (x : Int) (h1 : -9223372036854775808 ≤ x) (h2 : x ≤ 9223372036854775807) (hw : Below a.heap.size a w) :
    Calls Tryd.prog 36 #[.int .i64 x] w (WRes a x) := by
  rcases Int.lt_or_le x 0 with h | h
  · obtain ⟨y, rfl⟩ : ∃ y : Nat, x = -(y : Int) := ⟨x.natAbs, by omega⟩
    exact ROf_neg a w y (by omega) (by omega) hw
  · obtain ⟨y, rfl⟩ : ∃ y : Nat, x = (y : Int) := ⟨x.toNat, by omega⟩
    exact ROf_pos a w y (by omega) hw
theorem Of_any (a w : World) (x : Int) (h1 : -9223372036854775808 ≤ x) (h2 : x ≤ 9223372036854775807) (hw : Below a.heap.size a w) :
    Calls Tryd.prog 19 #[.int .i64 x] w (IRes a x) := by
  rcases Int.lt_or_le x 0 with h | h
  · obtain ⟨y, rfl⟩ : ∃ y : Nat, x = -(y : Int) := ⟨x.natAbs, by omega⟩
    exact Of_neg a w y (by omega) (by omega) hw
  · obtain ⟨y, rfl⟩ : ∃ y : Nat, x = (y : Int) := ⟨x.toNat, by omega⟩
    exact Of_pos a w y (by omega) hw

theorem cmpN_swap (x y : Nat) : -(cmpN x y) = cmpN y x := by unfold cmpN; (repeat' split) <;> omega
theorem cmpN_lo (x y : Nat) : -1 ≤ cmpN x y ∧ cmpN x y ≤ 1 := by unfold cmpN; (repeat' split) <;> omega

theorem small_spec {p neg : Bool} {l : List Nat} (h2 : l.length ≤ 2) : smallV p neg l = if !p then (0, 3) else if (neg && decide (val l > 9223372036854775808)) || (!neg && decide (val l ≥ 9223372036854775808)) then (0, 2) else (zI neg l, 0) := by
  have hc : (decide (val l > 9223372036854775808) || (decide (val l = 9223372036854775808) && !neg)) = ((neg && decide (val l > 9223372036854775808)) || (!neg && decide (val l ≥ 9223372036854775808))) := by
    cases neg
    · simp only [Bool.not_false, Bool.and_true, Bool.false_and, Bool.false_or, Bool.true_and]
      rw [Bool.eq_iff_iff]; simp; omega
    · simp
  unfold smallV
  cases p
  · rfl
  · have h3 : ¬ l.length > 2 := by omega
    simp only [Bool.not_true, Bool.false_eq_true, if_false, h3, hc]
theorem quiet_w {P : Program} {f : FuncId} {args : Array Value} {w : World} {n : Nat} {v : Value} (h : Calls P f args (w.drewN n) fun e w' => e = .returned v ∧ w.drewN n = w') :
    Calls P f args (w.drewN n) fun e w'' => e = .returned v ∧ ∃ m, w'' = w.drewN m := h.mono fun _ _ h => ⟨h.1, n, h.2.symm⟩

end Go.Proofs.YtaaipcjbmdbndaaDoor
