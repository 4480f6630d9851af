/- isDigits. -/
import Derived.Test.YtaaipcjbmdbndaaDoorNumA
namespace Go.Proofs.YtaaipcjbmdbndaaDoor
open Go.RowKit

/-- Byte i of a text. -/
def byt (s : ByteArray) (i : Nat) : Nat := (s.data.getD i 0).toNat
def digs (s : ByteArray) : Bool := decide (s.size ≠ 0) && decide (∀ i, i < s.size → 48 ≤ byt s i ∧ byt s i ≤ 57)

theorem byt_at {s : ByteArray} {i : Nat} (h : i < s.size) : byt s i = s[i].toNat := by
  unfold byt
  rw [Array.getD_eq_getD_getElem?, Array.getElem?_eq_getElem h]; rfl

set_option maxRecDepth 100000 in
set_option maxHeartbeats 400000 in
theorem isDigits_any (s : ByteArray) (w : World) (hn : s.size ≤ 1000000) :
    Calls Tryd.prog 39 #[.string s] w fun e w' => e = .returned (.bool (digs s)) ∧ w' = w := by
  go_enter Tryd.func39, Tryd.ntmps39
  go_wp2_with fail
  go_loopw [6] (fun iv wr => ∃ i : Nat, iv = .int .i64 (i : Int) ∧ i ≤ s.size ∧ (∀ j, j < i → 48 ≤ byt s j ∧ byt s j ≤ 57) ∧ wr = w) (fun iv _ => s.size - (intOf iv).toNat)
  case atStart => exact ⟨0, rfl, Nat.zero_le _, fun j hj => absurd hj (by omega), rfl⟩
  case round =>
    obtain ⟨i, rfl, hi, hpre, hwr⟩ := hrel
    rw [hwr]
    have HP := Lib.hid hpre
    clear hpre
    by_cases hlt : i < s.size
    · have hlti : (i : Int) < (s.size : Int) := by omega
      go_wp2_with fail
      · go_ret
        refine ⟨ret_bool ?_, rfl⟩
        rename_i h1 h2
        have hb := byt_at hlt
        have : digs s = false := by
          unfold digs
          rw [Bool.and_eq_false_iff]; right
          exact decide_eq_false (fun h => by have := h i hlt; omega)
        rw [this]
      · go_roundw
        case rel =>
          refine ⟨i + 1, by go_num, by omega, fun j hj => ?_, trivial⟩
          rcases Nat.lt_or_ge j i with h | h
          · exact HP.out j h
          · rename_i h2
            have hb := byt_at hlt
            rw [show j = i from by omega, hb]; omega
        case measure => simp [intOf]; omega
      · go_ret
        refine ⟨ret_bool ?_, rfl⟩
        rename_i h1
        have hb := byt_at hlt
        have : digs s = false := by
          unfold digs
          rw [Bool.and_eq_false_iff]; right
          exact decide_eq_false (fun h => by have := h i hlt; omega)
        rw [this]
    · have hnlt : ¬ (i : Int) < (s.size : Int) := by omega
      go_wp2_with fail
      go_ret
      refine ⟨ret_bool ?_, rfl⟩
      have hd : decide (∀ i, i < s.size → 48 ≤ byt s i ∧ byt s i ≤ 57) = true := decide_eq_true (fun j hj => HP.out j (by omega))
      unfold digs
      rw [hd, Bool.and_true]
      rw [ByteArray.toList_eq]
      have h0 : s.size = s.data.toList.length := rfl
      rw [h0]
      cases s.data.toList <;> simp
end Go.Proofs.YtaaipcjbmdbndaaDoor
