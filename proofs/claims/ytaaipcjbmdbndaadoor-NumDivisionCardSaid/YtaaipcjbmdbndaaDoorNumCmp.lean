/- compare, bitLen. -/
import Derived.Test.YtaaipcjbmdbndaaDoorNumA
namespace Go.Proofs.YtaaipcjbmdbndaaDoor
open Go.RowKit

def cmpN (x y : Nat) : Int := if x < y then -1 else if x = y then 0 else 1

set_option maxRecDepth 100000 in
set_option maxHeartbeats 400000 in
theorem cmpInt_any (x y : Nat) (w : World) : Calls Tryd.prog 73 #[.int .i64 (x : Int), .int .i64 (y : Int)] w fun e w' => e = .returned (.int .i64 (cmpN x y)) ∧ w = w' := by
  by_cases h1 : x < y
  · have e : cmpN x y = -1 := by unfold cmpN; rw [if_pos h1]
    rw [e]
    clear e
    go_enter Tryd.func73, Tryd.ntmps73
    go_wp2
    go_ret
    exact ⟨rfl, rfl⟩
  · by_cases h2 : x = y
    · have e : cmpN x y = 0 := by unfold cmpN; rw [if_neg h1, if_pos h2]
      rw [e]
      subst h2
      clear e h1
      go_enter Tryd.func73, Tryd.ntmps73
      go_wp2
      go_ret
      exact ⟨rfl, rfl⟩
    · have e : cmpN x y = 1 := by unfold cmpN; rw [if_neg h1, if_neg h2]
      rw [e]
      have h3 : y < x := by omega
      clear e h1 h2
      go_enter Tryd.func73, Tryd.ntmps73
      go_wp2
      go_ret
      exact ⟨rfl, rfl⟩

set_option maxRecDepth 100000 in
set_option maxHeartbeats 400000 in
theorem cmpW_any (x y : Nat) (w : World) : Calls Tryd.prog 74 #[.int .u32 (x : Int), .int .u32 (y : Int)] w fun e w' => e = .returned (.int .i64 (cmpN x y)) ∧ w = w' := by
  by_cases h1 : x < y
  · have e : cmpN x y = -1 := by unfold cmpN; rw [if_pos h1]
    rw [e]
    clear e
    go_enter Tryd.func74, Tryd.ntmps74
    go_wp2
    go_ret
    exact ⟨rfl, rfl⟩
  · by_cases h2 : x = y
    · have e : cmpN x y = 0 := by unfold cmpN; rw [if_neg h1, if_pos h2]
      rw [e]
      subst h2
      clear e h1
      go_enter Tryd.func74, Tryd.ntmps74
      go_wp2
      go_ret
      exact ⟨rfl, rfl⟩
    · have e : cmpN x y = 1 := by unfold cmpN; rw [if_neg h1, if_neg h2]
      rw [e]
      have h3 : y < x := by omega
      clear e h1 h2
      go_enter Tryd.func74, Tryd.ntmps74
      go_wp2
      go_ret
      exact ⟨rfl, rfl⟩

theorem cmpN_len {l k : List Nat} (hl : ∀ x ∈ l, x < 4294967296) (hk : ∀ x ∈ k, x < 4294967296) (tl : Top l) (tk : Top k) (h : l.length ≠ k.length) : cmpN l.length k.length = cmpN (val l) (val k) := by
  unfold cmpN
  rcases Nat.lt_or_ge l.length k.length with h1 | h1
  · have h2 := val_lt hl
    have h3 := val_lower tk (by omega)
    have h4 := BB_mono (show l.length ≤ k.length - 1 from by omega)
    rw [if_pos h1, if_pos (by omega)]
  · have h2 := val_lt hk
    have h3 := val_lower tl (by omega)
    have h4 := BB_mono (show k.length ≤ l.length - 1 from by omega)
    rw [if_neg (by omega), if_neg h, if_neg (by omega), if_neg (by omega)]
theorem val_drop_at (l : List Nat) {j : Nat} (h : j < l.length) : val (l.drop j) = gd l j + 4294967296 * val (l.drop (j + 1)) := by
  rw [List.drop_eq_getElem_cons h, ← gd_at h]; rfl
theorem val_split (l : List Nat) (j : Nat) (h : j ≤ l.length) : val l = val (l.take j) + BB j * val (l.drop j) := by
  have := val_append (l.take j) (l.drop j)
  rwa [List.take_append_drop, List.length_take, Nat.min_eq_left h] at this
theorem words_take {l : List Nat} (h : ∀ x ∈ l, x < 4294967296) (j : Nat) : ∀ x ∈ l.take j, x < 4294967296 := fun x hx => h x (List.mem_of_mem_take hx)
/-- The highest words that differ tell. -/
theorem cmpN_at {l k : List Nat} (hl : ∀ x ∈ l, x < 4294967296) (hk : ∀ x ∈ k, x < 4294967296) (he : l.length = k.length) {j : Nat} (hj : j < l.length) (hd : val (l.drop (j + 1)) = val (k.drop (j + 1))) (hne : gd l j ≠ gd k j) : cmpN (gd l j) (gd k j) = cmpN (val l) (val k) := by
  have h1 := val_split l (j + 1) (by omega)
  have h2 := val_split k (j + 1) (by omega)
  rw [val_take l hj, hd] at h1
  rw [val_take k (by omega)] at h2
  have h3 := val_lt (words_take hl j)
  have h4 := val_lt (words_take hk j)
  rw [List.length_take, Nat.min_eq_left (by omega)] at h3 h4
  generalize BB (j + 1) * val (k.drop (j + 1)) = R at *
  generalize gd l j = x at *
  generalize gd k j = y at *
  unfold cmpN
  rcases Nat.lt_or_ge x y with h5 | h5
  · have h6 := Nat.mul_le_mul_left (BB j) (show x + 1 ≤ y from h5)
    rw [Nat.mul_add, Nat.mul_one] at h6
    rw [if_pos h5, if_pos (by omega)]
  · have h6 := Nat.mul_le_mul_left (BB j) (show y + 1 ≤ x from by omega)
    rw [Nat.mul_add, Nat.mul_one] at h6
    rw [if_neg (by omega), if_neg hne, if_neg (by omega), if_neg (by omega)]

theorem quiet_mine {P : Program} {f : FuncId} {args : Array Value} {w : World} {a n : Nat} {v : Value} (h : Calls P f args (w.drewN (a + n)) fun e w' => e = .returned v ∧ w.drewN (a + n) = w') :
    Calls P f args (w.drewN (a + n)) fun e w'' => e = .returned v ∧ ∃ m, w'' = w.drewN (a + m) := h.mono fun _ _ h => ⟨h.1, n, h.2.symm⟩

set_option maxRecDepth 100000 in
set_option maxHeartbeats 400000 in
theorem compare_any (A B : Option Addr) (n c m d : Nat) (l k : List Nat) (w : World) (hn : l.length = n) (hm : k.length = m) (hn2 : n ≤ 4000000) (hm2 : m ≤ 4000000) (tl : Top l) (tk : Top k) (hl : WS w A l) (hk : WS w B k) :
    Calls Tryd.prog 53 #[.slice A n c, .slice B m d] w fun e w' => e = .returned (.int .i64 (cmpN (val l) (val k))) ∧ Below w.heap.size w w' := by
  subst hn hm
  by_cases hne : l.length = k.length
  · have HE := Lib.hid hne
    have hneb : ((l.length : Int) != (k.length : Int)) = false := by simp; omega
    clear hne
    go_enter Tryd.func53, Tryd.ntmps53
    go_wp2_with fail
    go_loopw [5] (fun iv wr => ∃ (j : Nat), j ≤ l.length ∧ iv = .int .i64 ((j : Int) - 1) ∧ Hid (val (l.drop j) = val (k.drop j)) ∧ Below w.heap.size w wr) (fun iv _ => (intOf iv + 1).toNat)
    case atStart => exact ⟨l.length, Nat.le_refl _, rfl, by show _ = _; rw [List.drop_length, HE.out, List.drop_length], b0 _⟩
    case round =>
      obtain ⟨j, hj, rfl, hd, hb⟩ := hrel
      rcases Nat.eq_zero_or_pos j with rfl | h0
      · go_wp2_with fail
        go_ret
        refine ⟨ret_int ?_, hb⟩
        have := hd.out
        rw [List.drop_zero, List.drop_zero] at this
        unfold cmpN
        rw [this, if_neg (by omega), if_pos rfl]
      · obtain ⟨i, rfl⟩ : ∃ i, j = i + 1 := ⟨j - 1, by omega⟩
        obtain ⟨b1, o1, rfl, hlt1, hc1⟩ := (hl.below hb).at_ (by omega)
        obtain ⟨b2, o2, rfl, hlt2, hc2⟩ := (hk.below hb).at_ (by have := HE.out; omega)
        have g1 := hc1 i (by omega)
        have g2 := hc2 i (by have := HE.out; omega)
        have hil : (i : Int) < (k.length : Int) := by have := HE.out; omega
        have hil2 : (i : Int) < (l.length : Int) := by omega
        have hi0 : (0 : Int) ≤ (i : Int) := by omega
        have hit : ((i : Int)).toNat = i := by simp
        clear hc1 hc2
        by_cases hx : gd l i = gd k i
        · have HX := Lib.hid hx
          rw [hx] at g1
          clear hx
          go_wp2_with fail
          go_quiet (fail)
          go_wp2_with fail
          go_roundw
          case rel =>
            refine ⟨i, by omega, rfl, ?_, bd hb _⟩
            show _ = _
            rw [val_drop_at l (by omega), val_drop_at k (by have := HE.out; omega), HX.out, hd.out]
          case measure => simp [intOf]
        · have HX := Lib.hid hx
          have hxb : (((gd l i : Nat) : Int) != ((gd k i : Nat) : Int)) = true := by simp; omega
          clear hx
          go_wp2_with fail
          go_quiet (fail)
          go_wp2_with fail
          go_quiet ((go_at_call 74; exact quiet_mine (cmpW_any _ _ _)))
          go_wp2_with fail
          go_ret
          exact ⟨ret_int (cmpN_at hl.1 hk.1 HE.out (by omega) hd.out HX.out), bd (bd hb _) _⟩
  · have hc := cmpN_len hl.1 hk.1 tl tk hne
    have hneb : ((l.length : Int) != (k.length : Int)) = true := by simp; omega
    have HC := Lib.hid hc
    clear hc hne
    go_enter Tryd.func53, Tryd.ntmps53
    go_wp2_with fail
    refine (cmpInt_any l.length k.length _).mono ?_
    rintro e w1 ⟨rfl, rfl⟩
    go_wp2_with fail
    go_ret
    exact ⟨ret_int HC.out, b0 _⟩
end Go.Proofs.YtaaipcjbmdbndaaDoor
