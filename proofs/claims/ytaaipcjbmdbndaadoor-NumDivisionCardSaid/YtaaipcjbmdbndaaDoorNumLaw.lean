/- The law's own helpers. -/
import Derived.Test.YtaaipcjbmdbndaaDoorNumRef5
namespace Go.Proofs.YtaaipcjbmdbndaaDoor
open Go.RowKit

/-- There is one canonical form. -/
theorem same_iff {n1 n2 : Bool} {l1 l2 : List Nat} (w1 : ∀ x ∈ l1, x < 4294967296) (w2 : ∀ x ∈ l2, x < 4294967296) (h1 : isB n1 l1 = true) (h2 : isB n2 l2 = true) : (n1 == n2 && decide (l1 = l2)) = decide (zI n1 l1 = zI n2 l2) := by
  rw [Bool.eq_iff_iff]
  simp only [Bool.and_eq_true, beq_iff_eq, decide_eq_true_eq]
  constructor
  · rintro ⟨rfl, rfl⟩; rfl
  · intro h
    have hv : val l1 = val l2 := by
      have e : ∀ (n : Bool) (l : List Nat), (zI n l).natAbs = val l := fun n l => by cases n <;> simp [zI]
      rw [← e n1, ← e n2, h]
    have hl := top_inj w1 w2 (isB_top h1) (isB_top h2) hv
    subst hl
    refine ⟨?_, rfl⟩
    by_cases h0 : l1.length = 0
    · rw [isB_nil h1 h0, isB_nil h2 h0]
    · have hp := val_pos (isB_top h1) (by omega)
      cases n1 <;> cases n2 <;> simp [zI] at h ⊢ <;> omega

theorem small_len {n : Bool} {l : List Nat} {x : Int} (hB : isB n l = true) (hz : zI n l = x) (h1 : -9223372036854775808 ≤ x) (h2 : x ≤ 9223372036854775807) : l.length ≤ 4000000 := by
  have e : val l = x.natAbs := by rw [← hz]; unfold zI; split <;> simp
  exact Nat.le_trans (top_len (m := 2) (isB_top hB) (by rw [e]; show x.natAbs < 4294967296 ^ 2; omega)) (by omega)

set_option maxRecDepth 100000 in
set_option maxHeartbeats 400000 in
theorem is_any (neg : Bool) (A : Option Addr) (n c : Nat) (l : List Nat) (z x : Int) (w : World) (hn : l.length = n) (hm : n ≤ 4000000) (hl : WS w A l) (hB : isB neg l = true) (hz : zI neg l = z) (h1 : -9223372036854775808 ≤ x) (h2 : x ≤ 9223372036854775807) :
    Calls Tryd.prog 37 #[.agg #[.bool neg, .slice A n c], .int .i64 x] w fun e w' => e = .returned (.bool (decide (z = x))) ∧ Below w.heap.size w w' := by
  subst hn
  have HB := Lib.hid hB
  have HZ := Lib.hid hz
  clear hB hz
  go_enter Tryd.func37, Tryd.ntmps37
  go_wp2_with fail
  obtain ⟨W1, hW1⟩ : ∃ W, W = w.alloc (.cells #[.bool neg, .slice A l.length c] 24) := ⟨_, rfl⟩
  have hbx : Box2 W1 w.heap.size (.bool neg) (.slice A l.length c) := by rw [hW1]; exact Box2.new _ _ _
  have hw1 : Below w.heap.size w W1 := by rw [hW1]; exact ba (b0 _) _
  rw [← hW1]
  clear hW1
  have y0 := hbx.cell0
  have y1 := hbx.cell1
  go_region_held3 (fun W => W.cell? ⟨w.heap.size, 0, none⟩ = some (.bool neg) ∧ W.cell? ⟨w.heap.size, 1, none⟩ = some (.slice A l.length c))
    (first | exact ⟨y0, y1⟩ | exact ⟨z0, z1⟩ | exact ⟨u0, u1⟩)
    (first
      | (go_at_call 36; refine (ROf_any W1 _ x h1 h2 (bd (b0 _) _)).mono ?_; rintro e w2 ⟨n2, A2, c2, l2, rfl, hc2, hl2, hB2, hz2, hb2⟩; have HB2 := Lib.hid hB2; have HZ2 := Lib.hid hz2; clear hB2 hz2; have z0 := (hbx.below hb2).cell0; have z1 := (hbx.below hb2).cell1; have hlen2 : l2.length ≤ 4000000 := small_len HB2.out HZ2.out h1 h2)
      | (go_at_call 13; refine (RSame_any neg n2 A A2 l.length c l2.length c2 l l2 w2 rfl rfl hm hlen2 ((hl.below hw1).below hb2) hl2).mono ?_; rintro e w3 ⟨rfl, hb3⟩; have u0 := ((hbx.below hb2).below hb3).cell0; have u1 := ((hbx.below hb2).below hb3).cell1))
  go_wp2_with fail
  go_ret
  refine ⟨ret_bool ?_, bt (bt hw1 hb2) hb3⟩
  rw [same_iff hl.1 hl2.1 HB.out HB2.out, HZ.out, HZ2.out]

set_option maxRecDepth 100000 in
set_option maxHeartbeats 400000 in
theorem short_any (n : Nat) (a b c : Bool) (A B C : Option Addr) (x y z cx cy cz : Nat) (w : World) (hx : x ≤ 4000000000) (hy : y ≤ 4000000000) (hz : z ≤ 4000000000) (hn : n ≤ 4000000000) :
    Calls Tryd.prog 9 #[.int .i64 (n : Int), .agg #[.bool a, .slice A x cx], .agg #[.bool b, .slice B y cy], .agg #[.bool c, .slice C z cz]] w fun e w' => e = .returned (.bool (decide (x ≤ n) && decide (y ≤ n) && decide (z ≤ n))) ∧ Below w.heap.size w w' := by
  go_enter Tryd.func9, Tryd.ntmps9
  by_cases h1 : x ≤ n
  · have h1i : (x : Int) ≤ (n : Int) := by omega
    by_cases h2 : y ≤ n
    · have h2i : (y : Int) ≤ (n : Int) := by omega
      by_cases h3 : z ≤ n
      · have h3i : (z : Int) ≤ (n : Int) := by omega
        go_wp2_with fail
        go_ret
        exact ⟨ret_bool (by simp [h1, h2, h3]), ba (ba (ba (b0 _) _) _) _⟩
      · have h3i : ¬ (z : Int) ≤ (n : Int) := by omega
        go_wp2_with fail
        go_ret
        exact ⟨ret_bool (by simp [h3]), ba (ba (ba (b0 _) _) _) _⟩
    · have h2i : ¬ (y : Int) ≤ (n : Int) := by omega
      go_wp2_with fail
      go_ret
      exact ⟨ret_bool (by simp [h2]), ba (ba (ba (b0 _) _) _) _⟩
  · have h1i : ¬ (x : Int) ≤ (n : Int) := by omega
    go_wp2_with fail
    go_ret
    exact ⟨ret_bool (by simp [h1]), ba (ba (ba (b0 _) _) _) _⟩
end Go.Proofs.YtaaipcjbmdbndaaDoor
