/- Sqrt of at most two words, for whatever root's steps keep. -/
import Derived.Test.YtjijifdnhbkjaaaGreatDoorNumRoot
import Derived.Test.YtjijifdnhbkjaaaGreatDoorNumBez
namespace Go.Proofs.YtjijifdnhbkjaaaGreatDoor
open Go.RowKit

set_option maxRecDepth 100000 in
set_option maxHeartbeats 400000 in
theorem Sqrt_walk (a w : World) (A : Option Addr) (c : Nat) (l : List Nat) (h : Nat) (Inv : Nat → Nat → Prop) (hl2 : l.length ≤ 2) (hh : h = (bl l - 1) / 2) (h0 : 0 < val l) (hB : isB false l = true) (hl : WS w A l)
    (hs : Inv 0 1) (hst : ∀ i a, 2 ^ i ≤ h → Inv (h / 2 ^ (i + 1)) a → Inv (h / 2 ^ i) (rootStep (val l) h (h / 2 ^ (i + 1)) (h / 2 ^ i) a)) (hpos : ∀ e a, Inv e a → 0 < a ∧ a < BB 2) (hw : Below a.heap.size a w) :
    Calls Tryz.prog 37 #[.agg #[.bool false, .slice A l.length c]] w fun e w' => ∃ r n1 A1 c1 l1, Inv h r ∧ e = .returned (.tuple #[.agg #[.bool n1, .slice A1 l1.length c1], .int .i64 0]) ∧ IP a w' n1 A1 c1 l1 ((if val l < r * r then r - 1 else r : Nat) : Int) ∧ Below a.heap.size a w' := by
  have HB := Lib.hid hB
  have HRW := Lib.hid (fun (W : World) hW => root_walk W A c l h Inv hl2 hh h0 (isB_top hB) hW hs hst hpos)
  have HPOS := Lib.hid hpos
  clear hB hh h0 hs hst hpos
  go_enter Tryz.func37, Tryz.ntmps37
  go_wp2_with fail
  refine (Is_any false A _ c l _ rfl (by omega) (hl.below (ba (ba (b0 _) _) _))).mono ?_
  rintro e w1 ⟨rfl, hb⟩
  rw [HB.out]
  have hbx := (Box2.new (w.alloc (.cells #[.bool false, .slice A l.length c] 24)) (.bool false) (.slice none 0 0)).below hb
  rw [World.size_alloc] at hbx
  have hby := ((Box2.new w (.bool false) (.slice A l.length c)).alloc (.cells #[.bool false, .slice none 0 0] 24)).below hb
  have y0 := hby.cell0
  have y1 := hby.cell1
  have hl1 : WS w1 A l := hl.below (bt (ba (ba (b0 _) _) _) hb)
  go_wp2_with fail
  refine (HRW.out w1 hl1).mono ?_
  rintro e w3 ⟨r, hr, A3, c3, l3, rfl, hc3, ho3, ht3, hv3, hb3⟩
  have hl3 : l3.length ≤ 2 := top_len ht3 (by have := (HPOS.out _ _ hr).2; rw [hv3]; split <;> omega)
  have HV3 := Lib.hid hv3
  have HR := Lib.hid hr
  clear hv3 hr
  go_wp2_with fail
  refine (signed_ip w1 w3 false A3 c3 l3 (by omega) hc3 ho3 ht3).mono ?_
  rintro e w4 ⟨⟨n4, A4, c4, l4, rfl, hi4, hl4⟩, hb4⟩
  have hbx4 := (hbx.below hb3).below hb4
  have x0 := hbx4.cell0
  have x1 := hbx4.cell1
  have f0 := hbx4.free 0
  have f1 := hbx4.free 1
  obtain ⟨k0, k1, k2⟩ := hbx4.back (.bool n4) (.slice A4 l4.length c4)
  go_wp2_with fail
  refine bodyPost_ret (v := .tuple #[.agg #[.bool n4, .slice A4 l4.length c4], .int .i64 0]) (by simp [results, Tryz.results37, go_sem, k0, k2]) rfl ?_
  have hs := hw.size
  have hsb := hb.size
  rw [World.size_alloc, World.size_alloc] at hsb
  have h5 := (hi4.two (p := w.heap.size + 1) (by omega) (.bool n4) (.slice A4 l4.length c4)).mono (a := a) (by omega)
  refine ⟨r, n4, A4, c4, l4, HR.out, rfl, ?_, b2 (bt (bt (bt hw (bt (ba (ba (b0 _) _) _) hb)) hb3) hb4) (by omega) _ _⟩
  rw [show zI false l3 = ((val l3 : Nat) : Int) from rfl, HV3.out] at h5
  exact h5

/-- The root's steps at 99. -/
def Inv99 (e a : Nat) : Prop := (e = 0 ∧ a = 1) ∨ (e = 1 ∧ a = 2) ∨ (e = 3 ∧ a = 10)
theorem step99 : ∀ i a, 2 ^ i ≤ 3 → Inv99 (3 / 2 ^ (i + 1)) a → Inv99 (3 / 2 ^ i) (rootStep 99 3 (3 / 2 ^ (i + 1)) (3 / 2 ^ i) a) := by
  intro i a hi h
  match i, hi with
  | 0, _ =>
    rcases h with ⟨h1, rfl⟩ | ⟨_, rfl⟩ | ⟨h1, rfl⟩
    · simp at h1
    · right; right; exact ⟨by decide, by decide⟩
    · simp at h1
  | 1, _ =>
    rcases h with ⟨_, rfl⟩ | ⟨h1, rfl⟩ | ⟨h1, rfl⟩
    · right; left; exact ⟨by decide, by decide⟩
    · simp at h1
    · simp at h1
  | i + 2, hi =>
    have : 2 ^ (i + 2) = 4 * 2 ^ i := by rw [Nat.pow_add, Nat.mul_comm]
    have := Nat.two_pow_pos i
    omega
theorem pos99 : ∀ e a, Inv99 e a → 0 < a ∧ a < BB 2 := by
  intro e a h
  rcases h with ⟨_, rfl⟩ | ⟨_, rfl⟩ | ⟨_, rfl⟩ <;> decide
theorem Sqrt_99 (a w : World) (A : Option Addr) (c : Nat) (hl : WS w A [99]) (hw : Below a.heap.size a w) :
    Calls Tryz.prog 37 #[.agg #[.bool false, .slice A 1 c]] w fun e w' => ∃ n1 A1 c1 l1, e = .returned (.tuple #[.agg #[.bool n1, .slice A1 l1.length c1], .int .i64 0]) ∧ IP a w' n1 A1 c1 l1 9 ∧ Below a.heap.size a w' := by
  refine (Sqrt_walk a w A c [99] 3 Inv99 (by simp) (by decide) (by decide) (by decide) hl (.inl ⟨rfl, rfl⟩) step99 pos99 hw).mono ?_
  rintro e w' ⟨r, n1, A1, c1, l1, hr, rfl, hi, hb⟩
  refine ⟨n1, A1, c1, l1, rfl, ?_, hb⟩
  rcases hr with ⟨h1, _⟩ | ⟨h1, _⟩ | ⟨_, rfl⟩
  · simp at h1
  · simp at h1
  · simpa [val] using hi
end Go.Proofs.YtjijifdnhbkjaaaGreatDoor
