/- The specification by value: native, Mul, Neg, Abs, Of. -/
import Derived.Test.YtgljdfblgpdaaaaGreatDoorNumWDiv
import Derived.Test.YtgljdfblgpdaaaaGreatDoorNumIv
import Derived.Test.YtgljdfblgpdaaaaGreatDoorNumRefA
import Derived.Deep.RegionHeld3
set_option linter.unusedSimpArgs false
set_option linter.unusedVariables false
namespace Go.Proofs.YtgljdfblgpdaaaaGreatDoor
open Go.RowKit Go.Shelf

theorem WRes.iv {w : World} {x z : Int} {e : Ending} {w' : World} (h : WRes w x e w') (hx : x = z) (hlt : Lt 300 z) : RIV w z e w' := by
  obtain ⟨n, A, c, l, he, hc, hw, hB, hz, hb⟩ := h
  exact ⟨n, A, c, l, he, .of hc hw hB (hz.trans hx) hlt, hb⟩
theorem BB2_eq : BB 2 = 18446744073709551616 := by decide
theorem lt_two {z : Int} (h : z.natAbs < 18446744073709551616) : Lt 2 z := by unfold Lt; rw [BB2_eq]; exact h
theorem riv_store {w W : World} {p : Nat} {n : Bool} {A : Option Addr} {c : Nat} {l : List Nat} {x : Int} (hW : Below w.heap.size w W) (hp : w.heap.size ≤ p) (hbx : Box2 W p (.bool false) (.slice none 0 0)) (h : IV W n A c l x) :
    RIV w x (.returned (.agg #[.bool n, .slice A l.length c])) ((W.setCell ⟨p, 0, none⟩ (.bool n)).setCell ⟨p, 1, none⟩ (.slice A l.length c)) :=
  ⟨n, A, c, l, rfl, ⟨h.cap, h.ws.two (ws_off_box hbx (by simp) h.ws) _ _, h.can, h.val, h.len⟩, b2 hW hp _ _⟩
theorem lt_of_val {i : Nat} {n : Bool} {l : List Nat} {z : Int} (hz : zI n l = z) (h : Lt i z) : val l < BB i := by
  have e : val l = z.natAbs := by rw [← hz]; unfold zI; split <;> simp
  rw [e]
  exact h

section
variable {w : World} {n m : Bool} {A B : Option Addr} {c d : Nat} {l k : List Nat} {x y z : Int}
theorem RIs_iv (h : IV w n A c l x) :
    Calls Tryz.prog 31 #[.agg #[.bool n, .slice A l.length c]] w fun e w' => e = .returned (.bool true) ∧ Below w.heap.size w w' := by
  have e1 := h.len
  have r := RIs_any n A l.length c l w rfl (by omega) h.ws
  rwa [h.can] at r
theorem RNeg_iv (h : IV w n A c l x) (hz : -x = z) (hlt : Lt 300 z) :
    Calls Tryz.prog 100 #[.agg #[.bool n, .slice A l.length c]] w (RIV w z) := by
  have e1 := h.len
  refine (RNeg_any w w n A l.length c l true rfl (by omega) h.cap h.ws h.can (b0 _)).mono fun e w' hr => hr.iv ?_ hlt
  rw [h.val]; exact hz
theorem RAbs_iv (h : IV w n A c l x) (hz : (x.natAbs : Int) = z) (hlt : Lt 300 z) :
    Calls Tryz.prog 62 #[.agg #[.bool n, .slice A l.length c]] w (RIV w z) := by
  have e1 := h.len
  refine (RAbs_any w w n A l.length c l true rfl (by omega) h.cap h.ws h.can (b0 _)).mono fun e w' hr => hr.iv ?_ hlt
  rw [show ite0 true ((val l : Int)) = (val l : Int) from rfl, val_abs h.val]; exact hz
theorem ROf_iv (w : World) (x : Int) (h1 : -9223372036854775808 ≤ x) (h2 : x ≤ 9223372036854775807) :
    Calls Tryz.prog 59 #[.int .i64 x] w (RIV w x) :=
  (ROf_any w w x h1 h2 (b0 _)).mono fun e w' hr => hr.iv rfl (lt_le (lt_two (by omega)) (by decide))
end


set_option maxRecDepth 100000 in
set_option maxHeartbeats 1000000 in
theorem Rnative_no {w : World} {n : Bool} {A : Option Addr} {c : Nat} {l : List Nat} {x : Int} (h : IV w n A c l x) (hx : 4611686018427387904 ≤ x.natAbs) :
    Calls Tryz.prog 90 #[.agg #[.bool n, .slice A l.length c]] w fun e w' => e = .returned (.tuple #[.int .i64 0, .bool false]) ∧ Below w.heap.size w w' := by
  have hm := h.len
  have hl := h.ws
  have hW0 := fun W h => Rword_any A l.length c 0 l W rfl (by omega) (by omega) (by omega) h
  have hW1 := fun W h => Rword_any A l.length c 1 l W rfl (by omega) (by omega) (by omega) h
  rw [show Int.toNat 0 = 0 from rfl] at hW0
  rw [show Int.toNat 1 = 1 from rfl] at hW1
  have HW0 := Lib.hid hW0
  have HW1 := Lib.hid hW1
  have b1 := hl.lt 0
  have b2' := hl.lt 1
  clear hW0 hW1
  obtain ⟨x0, hx0⟩ : ∃ x, x = gd l 0 := ⟨_, rfl⟩
  obtain ⟨y0, hy0⟩ : ∃ y, y = gd l 1 := ⟨_, rfl⟩
  rw [← hx0] at HW0 b1
  rw [← hy0] at HW1 b2'
  obtain ⟨u, hu⟩ : ∃ m, m = x0 + 4294967296 * y0 := ⟨_, rfl⟩
  have hor := or64 x0 y0 b1 b2'
  rw [← hu] at hor
  have hvz : val l = x.natAbs := by rw [← h.val]; unfold zI; split <;> simp
  have hmv : l.length ≤ 2 → 4611686018427387904 ≤ u := fun h => by
    have := val_two h
    rw [← hx0, ← hy0, ← hu] at this
    omega
  have hml : u < 18446744073709551616 := by omega
  clear hu hx0 hy0 h hvz hx
  by_cases h2 : l.length > 2
  · have h2i : (2 : Int) < (l.length : Int) := by omega
    clear hmv
    go_enter Tryz.func90, Tryz.ntmps90
    go_wp2_with fail
    have hbx := Box2.new w (.bool n) (.slice A l.length c)
    have c0 := hbx.cell0
    have c1 := hbx.cell1
    have hl1 := hl.below (ba (b0 w) (.cells #[.bool n, .slice A l.length c] 24))
    go_quiet ((go_at_call 145; first | (with_reducible exact quiet_w (HW0.out _ (hl1.below (bd (b0 _) _)))) | (with_reducible exact quiet_w (HW1.out _ (hl1.below (bd (b0 _) _))))))
    go_wp2_with fail
    go_ret2
    exact ⟨rfl, bd (ba (b0 _) _) _⟩
  · have h2i : ¬ (2 : Int) < (l.length : Int) := by omega
    have hgi : (4611686018427387904 : Int) ≤ (u : Int) := by have := hmv (by omega); omega
    clear hmv h2
    go_enter Tryz.func90, Tryz.ntmps90
    go_wp2_with fail
    have hbx := Box2.new w (.bool n) (.slice A l.length c)
    have c0 := hbx.cell0
    have c1 := hbx.cell1
    have hl1 := hl.below (ba (b0 w) (.cells #[.bool n, .slice A l.length c] 24))
    go_quiet ((go_at_call 145; first | (with_reducible exact quiet_w (HW0.out _ (hl1.below (bd (b0 _) _)))) | (with_reducible exact quiet_w (HW1.out _ (hl1.below (bd (b0 _) _))))))
    go_wp2_with fail
    go_ret2
    exact ⟨rfl, bd (ba (b0 _) _) _⟩

set_option maxRecDepth 100000 in
set_option maxHeartbeats 1000000 in
theorem Rnative_yes {w : World} {n : Bool} {A : Option Addr} {c : Nat} {l : List Nat} {x : Int} (h : IV w n A c l x) (hx : x.natAbs < 4611686018427387904) :
    Calls Tryz.prog 90 #[.agg #[.bool n, .slice A l.length c]] w fun e w' => e = .returned (.tuple #[.int .i64 x, .bool true]) ∧ Below w.heap.size w w' := by
  have hm := h.len
  have hl := h.ws
  have hW0 := fun W h => Rword_any A l.length c 0 l W rfl (by omega) (by omega) (by omega) h
  have hW1 := fun W h => Rword_any A l.length c 1 l W rfl (by omega) (by omega) (by omega) h
  rw [show Int.toNat 0 = 0 from rfl] at hW0
  rw [show Int.toNat 1 = 1 from rfl] at hW1
  have HW0 := Lib.hid hW0
  have HW1 := Lib.hid hW1
  have b1 := hl.lt 0
  have b2' := hl.lt 1
  clear hW0 hW1
  have hvz : val l = x.natAbs := by rw [← h.val]; unfold zI; split <;> simp
  have hl2 : l.length ≤ 2 := top_len (isB_top h.can) (by rw [hvz, BB2_eq]; omega)
  obtain ⟨x0, hx0⟩ : ∃ x, x = gd l 0 := ⟨_, rfl⟩
  obtain ⟨y0, hy0⟩ : ∃ y, y = gd l 1 := ⟨_, rfl⟩
  rw [← hx0] at HW0 b1
  rw [← hy0] at HW1 b2'
  obtain ⟨u, hu⟩ : ∃ m, m = x0 + 4294967296 * y0 := ⟨_, rfl⟩
  have hor := or64 x0 y0 b1 b2'
  rw [← hu] at hor
  have hmv : u = x.natAbs := by
    have := val_two hl2
    rw [← hx0, ← hy0, ← hu] at this
    omega
  have hz : (if n = true then -(u : Int) else (u : Int)) = x := by
    rw [hmv, ← hvz, ← h.val]; unfold zI; rfl
  have h2i : ¬ (2 : Int) < (l.length : Int) := by omega
  have hgd : ((4611686018427387904 : Int) ≤ (u : Int)) = False := eq_false (by omega)
  have hul : u < 4611686018427387904 := by omega
  have HW4 : Hid (wrap64 (-(u : Int)) = -(u : Int)) := Lib.hid (by unfold wrap64; omega)
  have hw1 : wrap64 (u : Int) = (u : Int) := by unfold wrap64; omega
  have HZ := Lib.hid hz
  clear hu hx0 hy0 h hvz hx hmv hz hl2 hul
  cases n
  · go_enter Tryz.func90, Tryz.ntmps90
    go_wp2_with fail
    have hbx := Box2.new w (.bool false) (.slice A l.length c)
    have c0 := hbx.cell0
    have c1 := hbx.cell1
    have hl1 := hl.below (ba (b0 w) (.cells #[.bool false, .slice A l.length c] 24))
    go_quiet ((go_at_call 145; first | (with_reducible exact quiet_w (HW0.out _ (hl1.below (bd (b0 _) _)))) | (with_reducible exact quiet_w (HW1.out _ (hl1.below (bd (b0 _) _))))))
    go_wp2_with fail
    go_ret2
    refine ⟨?_, bd (ba (b0 _) _) _⟩
    rw [← HZ.out]
    first | rfl | (show Ending.returned (.tuple #[.int .i64 (wrap64 (u : Int)), .bool true]) = _; rw [hw1]; rfl)
  · go_enter Tryz.func90, Tryz.ntmps90
    go_wp2_with fail
    have hbx := Box2.new w (.bool true) (.slice A l.length c)
    have c0 := hbx.cell0
    have c1 := hbx.cell1
    have hl1 := hl.below (ba (b0 w) (.cells #[.bool true, .slice A l.length c] 24))
    go_quiet ((go_at_call 145; first | (with_reducible exact quiet_w (HW0.out _ (hl1.below (bd (b0 _) _)))) | (with_reducible exact quiet_w (HW1.out _ (hl1.below (bd (b0 _) _))))))
    go_wp2_with fail
    go_ret2
    refine ⟨?_, bd (ba (b0 _) _) _⟩
    rw [← HZ.out]
    first | rfl | (show Ending.returned (.tuple #[.int .i64 (wrap64 (-(u : Int))), .bool true]) = _; rw [HW4.out]; rfl)
end Go.Proofs.YtgljdfblgpdaaaaGreatDoor
