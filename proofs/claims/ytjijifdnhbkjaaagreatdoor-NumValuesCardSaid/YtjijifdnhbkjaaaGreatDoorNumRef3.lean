/- The specification of num: Of and cmpWords. -/
import Derived.Test.YtjijifdnhbkjaaaGreatDoorNumRef2
namespace Go.Proofs.YtjijifdnhbkjaaaGreatDoor
open Go.RowKit

set_option maxRecDepth 100000 in
set_option maxHeartbeats 400000 in
theorem ROf_pos (a w : World) (x : Nat) (hx : x < 9223372036854775808) (hw : Below a.heap.size a w) :
    Calls Tryz.prog 14 #[.int .i64 (x : Int)] w (WRes a (x : Int)) := by
  have hlt0 : decide ((x : Int) < 0) = false := by simp
  have hd : x / 4294967296 < 4294967296 := by omega
  have hmd : x % 4294967296 < 4294967296 := Nat.mod_lt _ (by decide)
  go_enter Tryz.func14, Tryz.ntmps14
  go_wp2_with fail
  rw [show (#[Value.int IntKind.u32 (↑x % 4294967296), Value.int IntKind.u32 (↑x / 4294967296)] : Array Value) = words [x % 4294967296, x / 4294967296] from by simp [words]]
  have hbx := (Box2.new w (.bool false) (.slice none 0 0)).alloc (.cells (words [x % 4294967296, x / 4294967296]) 52)
  have hwd := Blk.new (w.alloc (.cells #[.bool false, .slice none 0 0] 24)) [x % 4294967296, x / 4294967296] (by simp; omega)
  rw [World.size_alloc] at hwd
  have hws := hwd.ws (o := 0) (n := 2) (by simp)
  rw [List.drop_zero, show List.take 2 [x % 4294967296, x / 4294967296] = [x % 4294967296, x / 4294967296] from rfl] at hws
  refine (Rmade_any _ _ false _ 2 2 [x % 4294967296, x / 4294967296] rfl (by omega) (by omega) hws (b0 _)).mono ?_
  rintro e w3 ⟨ng, A3, c3, l3, rfl, hc3, hl3, hB3, hz3, hb3⟩
  have HZ3 := Lib.hid hz3
  have HB3 := Lib.hid hB3
  clear hz3 hB3
  have hbx3 := hbx.below hb3
  have x0 := hbx3.cell0
  have x1 := hbx3.cell1
  have f0 := hbx3.free 0
  have f1 := hbx3.free 1
  obtain ⟨k0, k1, k2⟩ := hbx3.back (.bool ng) (.slice A3 l3.length c3)
  go_wp2_with fail
  refine bodyPost_ret (v := .agg #[.bool ng, .slice A3 l3.length c3]) (by simp [results, Tryz.results14, go_sem, k0, k2]) rfl ?_
  have hof := ws_off_box hbx3 (by simp) hl3
  refine ⟨ng, A3, c3, l3, rfl, hc3, hl3.two hof _ _, HB3.out, ?_, b2 (bt (ba (ba hw _) _) hb3) (by have := hw.size; omega) _ _⟩
  rw [HZ3.out]
  simp [zI, val]
  omega

set_option maxRecDepth 100000 in
set_option maxHeartbeats 400000 in
theorem ROf_neg (a w : World) (x : Nat) (h0 : 0 < x) (hx : x ≤ 9223372036854775808) (hw : Below a.heap.size a w) :
    Calls Tryz.prog 14 #[.int .i64 (-(x : Int))] w (WRes a (-(x : Int))) := by
  have hlt0 : decide (-(x : Int) < 0) = true := by simp; omega
  have e1 := wrap_neg x h0 hx
  have e2 := wrap_neg2 x h0 hx
  have hd : x / 4294967296 < 4294967296 := by omega
  have hmd : x % 4294967296 < 4294967296 := Nat.mod_lt _ (by decide)
  go_enter Tryz.func14, Tryz.ntmps14
  go_wp2_with fail
  rw [show (#[Value.int IntKind.u32 (↑x % 4294967296), Value.int IntKind.u32 (↑x / 4294967296)] : Array Value) = words [x % 4294967296, x / 4294967296] from by simp [words]]
  have hbx := (Box2.new w (.bool false) (.slice none 0 0)).alloc (.cells (words [x % 4294967296, x / 4294967296]) 52)
  have hwd := Blk.new (w.alloc (.cells #[.bool false, .slice none 0 0] 24)) [x % 4294967296, x / 4294967296] (by simp; omega)
  rw [World.size_alloc] at hwd
  have hws := hwd.ws (o := 0) (n := 2) (by simp)
  rw [List.drop_zero, show List.take 2 [x % 4294967296, x / 4294967296] = [x % 4294967296, x / 4294967296] from rfl] at hws
  refine (Rmade_any _ _ true _ 2 2 [x % 4294967296, x / 4294967296] rfl (by omega) (by omega) hws (b0 _)).mono ?_
  rintro e w3 ⟨ng, A3, c3, l3, rfl, hc3, hl3, hB3, hz3, hb3⟩
  have HZ3 := Lib.hid hz3
  have HB3 := Lib.hid hB3
  clear hz3 hB3
  have hbx3 := hbx.below hb3
  have x0 := hbx3.cell0
  have x1 := hbx3.cell1
  have f0 := hbx3.free 0
  have f1 := hbx3.free 1
  obtain ⟨k0, k1, k2⟩ := hbx3.back (.bool ng) (.slice A3 l3.length c3)
  go_wp2_with fail
  refine bodyPost_ret (v := .agg #[.bool ng, .slice A3 l3.length c3]) (by simp [results, Tryz.results14, go_sem, k0, k2]) rfl ?_
  have hof := ws_off_box hbx3 (by simp) hl3
  refine ⟨ng, A3, c3, l3, rfl, hc3, hl3.two hof _ _, HB3.out, ?_, b2 (bt (ba (ba hw _) _) hb3) (by have := hw.size; omega) _ _⟩
  rw [HZ3.out]
  simp [zI, val]
  omega

theorem ROf_any (a w : World) (x : Int) (h1 : -9223372036854775808 ≤ x) (h2 : x ≤ 9223372036854775807) (hw : Below a.heap.size a w) :
    Calls Tryz.prog 14 #[.int .i64 x] w (WRes a x) := by
  rcases Int.lt_or_le x 0 with h | h
  · obtain ⟨y, rfl⟩ : ∃ y : Nat, x = -(y : Int) := ⟨x.natAbs, by omega⟩
    exact ROf_neg a w y (by omega) (by omega) hw
  · obtain ⟨y, rfl⟩ : ∃ y : Nat, x = (y : Int) := ⟨x.toNat, by omega⟩
    exact ROf_pos a w y (by omega) hw
theorem Of_any (a w : World) (x : Int) (h1 : -9223372036854775808 ≤ x) (h2 : x ≤ 9223372036854775807) (hw : Below a.heap.size a w) :
    Calls Tryz.prog 13 #[.int .i64 x] w (IRes a x) := by
  rcases Int.lt_or_le x 0 with h | h
  · obtain ⟨y, rfl⟩ : ∃ y : Nat, x = -(y : Int) := ⟨x.natAbs, by omega⟩
    exact Of_neg a w y (by omega) (by omega) hw
  · obtain ⟨y, rfl⟩ : ∃ y : Nat, x = (y : Int) := ⟨x.toNat, by omega⟩
    exact Of_pos a w y (by omega) hw

set_option maxRecDepth 100000 in
set_option maxHeartbeats 1000000 in
theorem RcmpWords_any (A B : Option Addr) (n c m d : Nat) (l k : List Nat) (w : World) (hn : l.length = n) (hm : k.length = m) (hn2 : n ≤ 4000000) (hm2 : m ≤ 4000000) (tl : Top l) (tk : Top k) (hl : WS w A l) (hk : WS w B k) :
    Calls Tryz.prog 53 #[.slice A n c, .slice B m d] w fun e w' => e = .returned (.int .i64 (cmpN (val l) (val k))) ∧ Below w.heap.size w w' := by
  subst hn hm
  by_cases hne : l.length = k.length
  · have HE := Lib.hid hne
    have hneb : ((l.length : Int) != (k.length : Int)) = false := by simp; omega
    clear hne
    go_enter Tryz.func53, Tryz.ntmps53
    go_wp2_with fail
    go_loopw [5] (fun iv wr => ∃ (j : Nat), j ≤ l.length ∧ iv = .int .i64 ((j : Int) - 1) ∧ Hid (val (l.drop j) = val (k.drop j)) ∧ Below w.heap.size w wr) (fun iv _ => (intOf iv + 1).toNat)
    case atStart => exact ⟨l.length, Nat.le_refl _, rfl, by show _ = _; rw [List.drop_length, HE.out, List.drop_length], b0 _⟩
    case round =>
      obtain ⟨j, hj, rfl, hd, hb⟩ := hrel
      rcases Nat.eq_zero_or_pos j with rfl | h0
      · go_wp2_with fail
        go_ret
        refine ⟨ret_int ?_, hb⟩
        have := hd.out
        rw [List.drop_zero, List.drop_zero] at this
        unfold cmpN
        rw [this, if_neg (by omega), if_pos rfl]
      · obtain ⟨i, rfl⟩ : ∃ i, j = i + 1 := ⟨j - 1, by omega⟩
        obtain ⟨b1, o1, rfl, hlt1, hc1⟩ := (hl.below hb).at_ (by omega)
        obtain ⟨b2, o2, rfl, hlt2, hc2⟩ := (hk.below hb).at_ (by have := HE.out; omega)
        have g1 := hc1 i (by omega)
        have g2 := hc2 i (by have := HE.out; omega)
        have hil : (i : Int) < (k.length : Int) := by have := HE.out; omega
        have hil2 : (i : Int) < (l.length : Int) := by omega
        have hi0 : (0 : Int) ≤ (i : Int) := by omega
        have hit : ((i : Int)).toNat = i := by simp
        clear hc1 hc2
        by_cases hx : gd l i = gd k i
        · have HX := Lib.hid hx
          rw [hx] at g1
          clear hx
          go_wp2_with fail
          go_quiet (fail)
          go_wp2_with fail
          go_quiet (fail)
          go_wp2_with fail
          go_roundw
          case rel =>
            refine ⟨i, by omega, by go_num, ?_, bd hb _⟩
            show _ = _
            rw [val_drop_at l (by omega), val_drop_at k (by have := HE.out; omega), HX.out, hd.out]
          case measure => simp [intOf]
        · have hcmp := cmpN_at hl.1 hk.1 HE.out (show i < l.length by omega) hd.out hx
          rcases Nat.lt_or_ge (gd l i) (gd k i) with hlt | hge
          · have hxi : ((gd l i : Nat) : Int) < ((gd k i : Nat) : Int) := by omega
            have e1 : cmpN (val l) (val k) = -1 := by rw [← hcmp]; unfold cmpN; rw [if_pos hlt]
            have E1 := Lib.hid e1
            clear hx hcmp e1
            go_wp2_with fail
            go_quiet (fail)
            go_wp2_with fail
            go_ret
            exact ⟨ret_int E1.out.symm, bd hb _⟩
          · have hxi : ¬ ((gd l i : Nat) : Int) < ((gd k i : Nat) : Int) := by omega
            have hxj : ((gd k i : Nat) : Int) < ((gd l i : Nat) : Int) := by omega
            have e1 : cmpN (val l) (val k) = 1 := by rw [← hcmp]; unfold cmpN; rw [if_neg (by omega), if_neg hx]
            have E1 := Lib.hid e1
            clear hx hcmp e1
            go_wp2_with fail
            go_quiet (fail)
            go_wp2_with fail
            go_quiet (fail)
            go_wp2_with fail
            go_ret
            exact ⟨ret_int E1.out.symm, bd (bd hb _) _⟩
  · have hc := cmpN_len hl.1 hk.1 tl tk hne
    have hneb : ((l.length : Int) != (k.length : Int)) = true := by simp; omega
    rcases Nat.lt_or_ge l.length k.length with hlt | hge
    · have hxi : (l.length : Int) < (k.length : Int) := by omega
      have e1 : cmpN (val l) (val k) = -1 := by rw [← hc]; unfold cmpN; rw [if_pos hlt]
      have HC := Lib.hid e1
      clear hc hne e1
      go_enter Tryz.func53, Tryz.ntmps53
      go_wp2_with fail
      go_ret
      exact ⟨ret_int HC.out.symm, b0 _⟩
    · have hxi : ¬ (l.length : Int) < (k.length : Int) := by omega
      have e1 : cmpN (val l) (val k) = 1 := by rw [← hc]; unfold cmpN; rw [if_neg (by omega), if_neg hne]
      have HC := Lib.hid e1
      clear hc hne e1
      go_enter Tryz.func53, Tryz.ntmps53
      go_wp2_with fail
      go_ret
      exact ⟨ret_int HC.out.symm, b0 _⟩
end Go.Proofs.YtjijifdnhbkjaaaGreatDoor
