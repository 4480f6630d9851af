/- The generic function 'fold', at its instances, over whatever closure keeps an invariant. -/
import Derived.Test.YtaaipcjbmdbndaaDoorNumA
namespace Go.Proofs.YtaaipcjbmdbndaaDoor
open Go.RowKit

/-- What 'fold' ends in. -/
def FoldP (I : Nat → Value → World → Prop) (n : Nat) (e : Ending) (w' : World) : Prop := ∃ s', e = .returned s' ∧ I n s' w'

set_option maxRecDepth 100000 in
set_option maxHeartbeats 400000 in
theorem fold64 (K : Nat) (cp : Value) (A B : Option Addr) (n c m d : Nat) (l k : List Nat) (I : Nat → Value → World → Prop) (hn : l.length = n) (hk : k.length = m) (hnm : n ≤ 4000000) (hmm : m ≤ 4000000)
    (hK : ∀ args W, (callFunc K args).run Tryd.prog W = .ok (.enter K args) W)
    (hA : ∀ i s W, I i s W → WS W A l) (hB : ∀ i s W, I i s W → WS W B k)
    (hstep : ∀ (i : Nat) s W, i < n → I i s W → Calls Tryd.prog K #[s, .int .i64 (i : Int), .int .u32 (gd l i : Int), .int .u32 (gd k i : Int), cp] W (FoldP I (i + 1)))
    (s0 : Value) (w : World) (h0 : I 0 s0 w) :
    Calls Tryd.prog 76 #[.slice A n c, .slice B m d, s0, .func (.func K) #[] #[cp]] w (FoldP I n) := by
  subst hn hk
  have HA := Lib.hid hA
  have HB := Lib.hid hB
  have HS := Lib.hid hstep
  clear hA hB hstep
  go_enter Tryd.func76, Tryd.ntmps76
  go_wp2
  go_loopw [2, 13] (fun s iv wr => ∃ i : Nat, i ≤ l.length ∧ iv = .int .i64 i ∧ Hid (I i s wr)) (fun _ iv _ => l.length - (intOf iv).toNat)
  case atStart => exact ⟨0, Nat.zero_le _, rfl, h0⟩
  case round =>
    obtain ⟨i, hi, rfl, hI⟩ := hrel
    by_cases hlt : i < l.length
    · have hw := HA.out _ _ _ hI.out
      obtain ⟨b, off, rfl, hblt, hc⟩ := hw.at_ (by omega)
      have hc1 := hc i hlt
      clear hc
      go_wp2_with fail
      refine (wordAt_any B _ d (i : Int) k _ rfl hmm (by omega) (by omega) (HB.out _ _ _ hI.out)).mono ?_
      rintro e w1 ⟨rfl, rfl⟩
      rw [Int.toNat_natCast]
      go_wp2_with fail
      refine (HS.out i u2 _ hlt hI.out).mono ?_
      rintro e w2 ⟨s', rfl, hI2⟩
      have HI2 := Lib.hid hI2
      clear hI2
      go_wp2_with fail
      go_roundw
      case rel => exact ⟨i + 1, by omega, by go_num, HI2⟩
      case measure => simp [intOf]; omega
    · have he : i = l.length := by omega
      subst he
      go_wp2_with fail
      go_ret
      exact ⟨u2, rfl, hI.out⟩

set_option maxRecDepth 100000 in
set_option maxHeartbeats 400000 in
theorem foldI (K : Nat) (cp : Value) (A B : Option Addr) (n c m d : Nat) (l k : List Nat) (I : Nat → Value → World → Prop) (hn : l.length = n) (hk : k.length = m) (hnm : n ≤ 4000000) (hmm : m ≤ 4000000)
    (hK : ∀ args W, (callFunc K args).run Tryd.prog W = .ok (.enter K args) W)
    (hA : ∀ i s W, I i s W → WS W A l) (hB : ∀ i s W, I i s W → WS W B k)
    (hstep : ∀ (i : Nat) s W, i < n → I i s W → Calls Tryd.prog K #[s, .int .i64 (i : Int), .int .u32 (gd l i : Int), .int .u32 (gd k i : Int), cp] W (FoldP I (i + 1)))
    (s0 : Value) (w : World) (h0 : I 0 s0 w) :
    Calls Tryd.prog 78 #[.slice A n c, .slice B m d, s0, .func (.func K) #[] #[cp]] w (FoldP I n) := by
  subst hn hk
  have HA := Lib.hid hA
  have HB := Lib.hid hB
  have HS := Lib.hid hstep
  clear hA hB hstep
  go_enter Tryd.func78, Tryd.ntmps78
  go_wp2
  go_loopw [2, 13] (fun s iv wr => ∃ i : Nat, i ≤ l.length ∧ iv = .int .i64 i ∧ Hid (I i s wr)) (fun _ iv _ => l.length - (intOf iv).toNat)
  case atStart => exact ⟨0, Nat.zero_le _, rfl, h0⟩
  case round =>
    obtain ⟨i, hi, rfl, hI⟩ := hrel
    by_cases hlt : i < l.length
    · have hw := HA.out _ _ _ hI.out
      obtain ⟨b, off, rfl, hblt, hc⟩ := hw.at_ (by omega)
      have hc1 := hc i hlt
      clear hc
      go_wp2_with fail
      refine (wordAt_any B _ d (i : Int) k _ rfl hmm (by omega) (by omega) (HB.out _ _ _ hI.out)).mono ?_
      rintro e w1 ⟨rfl, rfl⟩
      rw [Int.toNat_natCast]
      go_wp2_with fail
      refine (HS.out i u2 _ hlt hI.out).mono ?_
      rintro e w2 ⟨s', rfl, hI2⟩
      have HI2 := Lib.hid hI2
      clear hI2
      go_wp2_with fail
      go_roundw
      case rel => exact ⟨i + 1, by omega, by go_num, HI2⟩
      case measure => simp [intOf]; omega
    · have he : i = l.length := by omega
      subst he
      go_wp2_with fail
      go_ret
      exact ⟨u2, rfl, hI.out⟩
end Go.Proofs.YtaaipcjbmdbndaaDoor
