import Derived.Test.YtgljdfblgpdaaaaGreatDoorPbNumMacB
set_option linter.unusedSimpArgs false
set_option linter.unusedVariables false
set_option maxRecDepth 100000
set_option maxHeartbeats 4000000
namespace Go.Proofs.YtgljdfblgpdaaaaGreatDoor
open Go.RowKit
theorem RcmpWords_any (A B : Option Addr) (n c m d : Nat) (l k : List Nat) (w : World) (hn : l.length = n) (hm : k.length = m) (hn2 : n ≤ 4000000) (hm2 : m ≤ 4000000) (tl : Top l) (tk : Top k) (hl : WS w A l) (hk : WS w B k) :
  Calls Tryz.prog 99 #[.slice A n c, .slice B m d] w fun e w' => e = .returned (.int .i64 (cmpN (val l) (val k))) ∧ Below w.heap.size w w' := by
 subst hn hm
 by_cases hne : l.length = k.length
 ·have HE := Hi hne
  have hneb : ((l.length : Int) != (k.length : Int)) = false := by simp; omega
  clear hne
  go_enter Tryz.func99, Tryz.ntmps99
  go_wp2_with fail
  go_loopw [5] (fun iv wr => ∃ (j : Nat), j ≤ l.length ∧ iv = .int .i64 ((j : Int) - 1) ∧ Hid (val (l.drop j) = val (k.drop j)) ∧ Below w.heap.size w wr) (fun iv _ => (intOf iv + 1).toNat)
  case atStart => exact ⟨l.length, Nat.le_refl _, rfl, by show _ = _; rw [List.drop_length, HE.out, List.drop_length], b0 _⟩
  case round =>
   obtain ⟨j, hj, rfl, hd, hb⟩ := hrel
   rcases Nat.eq_zero_or_pos j with rfl | h0
   ·go_wp2_with fail
    exact m9e581
   ·obtain ⟨i, rfl⟩ : ∃ i, j = i + 1 := ⟨j - 1, by omega⟩
    obtain ⟨b1, o1, rfl, hlt1, hc1⟩ := (hl.below hb).at_ (by omega)
    obtain ⟨b2, o2, rfl, hlt2, hc2⟩ := (hk.below hb).at_ (by have := HE.out; omega)
    have g1 := hc1 i (by omega)
    have g2 := hc2 i (by have := HE.out; omega)
    have hil : (i : Int) < (k.length : Int) := by have := HE.out; omega
    have hil2 : (i : Int) < (l.length : Int) := by omega
    have hi0 : (0 : Int) ≤ (i : Int) := by omega
    have hit : ((i : Int)).toNat = i := by simp
    clear hc1 hc2
    by_cases hx : gd l i = gd k i
    ·have HX := Hi hx
     rw [hx] at g1
     clear hx
     go_wp2_with fail
     go_quiet (fail)
     go_wp2_with fail
     go_quiet (fail)
     go_wp2_with fail
     go_roundw
     case rel =>
      refine ⟨i, by omega, by go_num, ?_, bd hb _⟩
      show _ = _
      rw [val_drop_at l (by omega), val_drop_at k (by have := HE.out; omega), HX.out, hd.out]
     case measure => simp [intOf]
    ·have hcmp := cmpN_at hl.1 hk.1 HE.out (show i < l.length by omega) hd.out hx
     rcases Nat.lt_or_ge (gd l i) (gd k i) with hlt | hge
     ·have hxi : ((gd l i : Nat) : Int) < ((gd k i : Nat) : Int) := by omega
      have e1 : cmpN (val l) (val k) = -1 := by rw [← hcmp]; unfold cmpN; rw [if_pos hlt]
      have E1 := Hi e1
      clear hx hcmp e1
      go_wp2_with fail
      go_quiet (fail)
      go_wp2_with fail
      go_ret
      exact ⟨ret_int E1.out.symm, bd hb _⟩
     ·have hxi : ¬ ((gd l i : Nat) : Int) < ((gd k i : Nat) : Int) := by omega
      have hxj : ((gd k i : Nat) : Int) < ((gd l i : Nat) : Int) := by omega
      have e1 : cmpN (val l) (val k) = 1 := by rw [← hcmp]; unfold cmpN; rw [if_neg (by omega), if_neg hx]
      have E1 := Hi e1
      clear hx hcmp e1
      go_wp2_with fail
      go_quiet (fail)
      go_wp2_with fail
      go_quiet (fail)
      go_wp2_with fail
      go_ret
      exact ⟨ret_int E1.out.symm, bd (bd hb _) _⟩
 ·have hc := cmpN_len hl.1 hk.1 tl tk hne
  have hneb : ((l.length : Int) != (k.length : Int)) = true := by simp; omega
  rcases Nat.lt_or_ge l.length k.length with hlt | hge
  ·have hxi : (l.length : Int) < (k.length : Int) := by omega
   have e1 : cmpN (val l) (val k) = -1 := by rw [← hc]; unfold cmpN; rw [if_pos hlt]
   have HC := Hi e1
   clear hc hne e1
   go_enter Tryz.func99, Tryz.ntmps99
   go_wp2_with fail
   go_ret
   exact ⟨ret_int HC.out.symm, b0 _⟩
  ·have hxi : ¬ (l.length : Int) < (k.length : Int) := by omega
   have e1 : cmpN (val l) (val k) = 1 := by rw [← hc]; unfold cmpN; rw [if_neg (by omega), if_neg hne]
   have HC := Hi e1
   clear hc hne e1
   go_enter Tryz.func99, Tryz.ntmps99
   go_wp2_with fail
   go_ret
   exact ⟨ret_int HC.out.symm, b0 _⟩
end Go.Proofs.YtgljdfblgpdaaaaGreatDoor
