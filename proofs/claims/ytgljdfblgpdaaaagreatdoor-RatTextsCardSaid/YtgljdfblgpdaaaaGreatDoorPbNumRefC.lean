import Derived.Test.YtgljdfblgpdaaaaGreatDoorPbNumMacB
set_option linter.unusedSimpArgs false
set_option linter.unusedVariables false
set_option maxRecDepth 100000
set_option maxHeartbeats 4000000
namespace Go.Proofs.YtgljdfblgpdaaaaGreatDoor
open Go.RowKit
theorem RbitsOf_any (A : Option Addr) (n c : Nat) (l : List Nat) (w : World) (hn : l.length = n) (hm : n ≤ 4000000) (hws : WS w A l) :
  Calls Tryz.prog 147 #[.slice A n c] w fun e w' => e = .returned (.int .i64 (bl l : Int)) ∧ w = w' := by
 subst hn
 by_cases h0 : l.length = 0
 ·have e1 : bl l = 0 := by unfold bl; rw [if_pos h0]
  have hz : ((l.length : Int) == 0) = true := by simp; exact List.eq_nil_of_length_eq_zero h0
  rw [e1]
  clear h0
  go_enter Tryz.func147, Tryz.ntmps147
  go_wp2_with fail
  go_ret
  exact ⟨rfl, rfl⟩
 ·obtain ⟨b, off, rfl, hlt, hc⟩ := hws.at_ (by omega)
  have hc1 := hc (l.length - 1) (by omega)
  have hx := hws.lt (l.length - 1)
  have hz : ((l.length : Int) == 0) = false := beq_eq_false_iff_ne.2 (by omega)
  have hl1 : 1 ≤ (l.length : Int) := by omega
  have e1 : bl l = 32 * (l.length - 1) + Lib.bitLen (gd l (l.length - 1)) := by unfold bl; rw [if_neg h0]
  rw [e1]
  generalize gd l (l.length - 1) = x at *
  clear hc e1
  go_enter Tryz.func147, Tryz.ntmps147
  go_wp2_with fail
  go_loopw [3, 4] (fun nv tv wr => ∃ (r t : Nat), nv = .int .i64 (r : Int) ∧ tv = .int .u32 (t : Int) ∧ t < 4294967296 ∧ r ≤ 200000000 ∧ Hid (r + Lib.bitLen t = 32 * (l.length - 1) + Lib.bitLen x) ∧ wr = w) (fun _ tv _ => (intOf tv).toNat)
  case atStart => exact ⟨32 * (l.length - 1), x, by go_num, rfl, hx, by omega, rfl, rfl⟩
  case round =>
   obtain ⟨r, t, rfl, rfl, ht, hr, hrt, hwr⟩ := hrel
   rw [hwr]
   clear hwr
   rcases Nat.eq_zero_or_pos t with rfl | h1
   ·go_wp2_with fail
    go_ret
    refine ⟨ret_int ?_, rfl⟩
    have := hrt.out
    rw [bitLen_zero] at this
    omega
   ·have hne : ((t : Int) != 0) = true := by simp; omega
    have hh := bitLen_half (x := t) (by omega) (by omega)
    have hb32 : Lib.bitLen x ≤ 64 := by unfold Lib.bitLen; exact bitLen_le 64 x
    have hr2 : r + 1 ≤ 200000000 := by have := hrt.out; omega
    have HH := Hi hh
    clear hh
    go_wp2_with fail
    go_roundw
    case rel => exact ⟨r + 1, t / 2, by go_num, by go_num, by omega, hr2, by show _ = _; have := hrt.out; have := HH.out; omega, trivial⟩
    case measure => simp [intOf]; omega
end Go.Proofs.YtgljdfblgpdaaaaGreatDoor
