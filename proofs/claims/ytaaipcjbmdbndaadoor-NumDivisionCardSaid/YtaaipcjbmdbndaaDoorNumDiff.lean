/- difference. -/
import Derived.Test.YtaaipcjbmdbndaaDoorNumSum
namespace Go.Proofs.YtaaipcjbmdbndaaDoor
open Go.RowKit

/-- The closure of 'difference': one word more; r is what is borrowed. -/
def DiffI (w0 : World) (g p : Nat) (n : Nat) (l k : List Nat) (A B : Option Addr) (i : Nat) (s : Value) (W : World) : Prop :=
  ∃ (S : List Nat) (r : Nat), s = .int .i64 (-(r : Int)) ∧ r ≤ 1 ∧ S.length = i ∧ (∀ x ∈ S, x < 4294967296) ∧ val S + val (k.take i) = val (l.take i) + BB i * r ∧ Blk W g (spl (zer n) 0 S) ∧ Box W p (.slice (some ⟨g, 0, none⟩) n n) ∧ WS W A l ∧ WS W B k ∧ Off A l g ∧ Off B k g ∧ p ≠ g ∧ Only g w0 W

theorem diff_step {vS K r q t x y va vb : Nat} (hv : vS + vb = va + K * r) (ht : t + y + r = x + 4294967296 * q) :
    vS + K * t + (vb + K * y) = va + K * x + K * 4294967296 * q := by
  have h1 : K * (t + y + r) = K * (x + 4294967296 * q) := by rw [ht]
  rw [Nat.mul_add, Nat.mul_add, Nat.mul_add] at h1
  rw [Nat.mul_assoc]
  omega

set_option maxRecDepth 100000 in
set_option maxHeartbeats 400000 in
theorem diff1_any (w0 : World) (g p n : Nat) (l k : List Nat) (A B : Option Addr) (i : Nat) (s : Value) (W : World) (hi : i < n) (hn : n ≤ 4000000) (h : DiffI w0 g p n l k A B i s W) :
    Calls Tryd.prog 79 #[s, .int .i64 (i : Int), .int .u32 (gd l i : Int), .int .u32 (gd k i : Int), .pointer (some ⟨p, 0, none⟩)] W (FoldP (DiffI w0 g p n l k A B) (i + 1)) := by
  obtain ⟨S, r, rfl, hr, hS, hSw, hv, hb, hbox, hA, hB, hoA, hoB, hpg, hO⟩ := h
  have hc1 := hbox.cell
  have hx := hA.lt i
  have hy := hB.lt i
  have hlen : (spl (zer n) 0 S).length = n := by rw [spl_length (by rw [zer_length]; omega), zer_length]
  have hc2 := hb.cell (i := i) (by omega)
  have hf2 := hb.free i
  have H1 := Lib.hid (val_take_any l i)
  have H2 := Lib.hid (val_take_any k i)
  have HS := Lib.hid hS
  have HV := Lib.hid hv
  have HL := Lib.hid hlen
  have HB := Lib.hid hb
  clear hv hS hlen hb
  generalize gd (spl (zer n) 0 S) i = z at *
  generalize hxe : gd l i = x at *
  generalize hye : gd k i = y at *
  clear hxe hye
  obtain ⟨q, t, hq, ht, htl⟩ : ∃ q t : Nat, q ≤ 1 ∧ t + y + r = x + 4294967296 * q ∧ t < 4294967296 := by
    by_cases h : y + r ≤ x
    · exact ⟨0, x - y - r, by omega, by omega, by omega⟩
    · exact ⟨1, x + 4294967296 - y - r, by omega, by omega, by omega⟩
  have e1 : (x : Int) - (y : Int) + -(r : Int) = (t : Int) - 4294967296 * (q : Int) := by omega
  have HT := Lib.hid ht
  clear ht
  go_enter Tryd.func79, Tryd.ntmps79
  go_wp2_with fail
  go_ret
  have em : ((t : Int) % 4294967296) = (t : Int) := by omega
  rw [em]
  refine ⟨.int .i64 (-(q : Int)), ret_int (by omega), S ++ [t], q, rfl, hq, by simp [HS.out], words_snoc hSw htl, ?_, ?_, ?_, ?_, ?_, hoA, hoB, hpg, hO.set_ (.inl rfl) _⟩
  · rw [val_snoc, HS.out, H1.out, H2.out, BB_succ]
    exact diff_step HV.out HT.out
  · have h := HB.out.set_ (i := i) htl
    have h2 := spl_set (L := zer n) (o := 0) (S := S) t (by rw [zer_length, HS.out]; omega)
    rw [Nat.zero_add, HS.out] at h2
    rw [h2] at h
    exact h
  · exact hbox.only ((only_refl g W).set_ (.inl rfl) _) hpg
  · exact hA.only ((only_refl g W).set_ (.inl rfl) _) hoA
  · exact hB.only ((only_refl g W).set_ (.inl rfl) _) hoB

theorem enters2 : ∀ args W, (callFunc 79 args).run Tryd.prog W = .ok (.enter 79 args) W := enters_of Tryd.func79 (by kernel_rfl) rfl

set_option maxRecDepth 100000 in
set_option maxHeartbeats 400000 in
theorem difference_any (a w : World) (A B : Option Addr) (n c m d : Nat) (l k : List Nat) (hn : l.length = n) (hm : k.length = m) (hmn : m ≤ n) (hn2 : n ≤ 4000000) (hle : val k ≤ val l) (hl : WS w A l) (hk : WS w B k) (hw : Below a.heap.size a w) :
    Calls Tryd.prog 56 #[.slice A n c, .slice B m d] w (Res a (val l - val k)) := by
  subst hn hm
  have hmk := fun W => run_mk (l.length : Int) l.length rfl (by omega) W
  go_enter Tryd.func56, Tryd.ntmps56
  go_wp2_with fail
  refine (foldI 79 (.pointer (some ⟨w.heap.size + 1, 0, none⟩)) A B l.length c k.length d l k (DiffI w w.heap.size (w.heap.size + 1) l.length l k A B) rfl rfl (by omega) (by omega) enters2
    (fun i s W h => by obtain ⟨S, r, _, _, _, _, _, _, _, h, _⟩ := h; exact h) (fun i s W h => by obtain ⟨S, r, _, _, _, _, _, _, _, _, h, _⟩ := h; exact h)
    (fun i s W hi h => diff1_any w w.heap.size (w.heap.size + 1) l.length l k A B i s W (by omega) (by omega) h) (.int .i64 0) _ ?h0).mono ?_
  case h0 =>
    exact ⟨[], 0, by simp, by omega, rfl, by simp, by simp [val], by rw [spl_nil]; exact (Blk.new w _ (zer_lt _)).alloc _, (by have := Box.new (w.alloc (.cells (words (zer l.length)) 58)) (.slice (some ⟨w.heap.size, 0, none⟩) l.length l.length); simpa using this),
      hl.below (ba (ba (b0 _) _) _), hk.below (ba (ba (b0 _) _) _), hl.off (Nat.le_refl _), hk.off (Nat.le_refl _), by omega, Only.mono (ba (ba (b0 _) _) _)⟩
  · rintro e w1 ⟨s', rfl, S, r, rfl, hr, hS, hSw, hv, hb, hbox, hA, hB, hoA, hoB, hpg, hO⟩
    have hc1 := hbox.cell
    have hv2 : val S = val l - val k := by
      rw [List.take_length, List.take_of_length_le hmn] at hv
      have hlt := val_lt hSw
      rw [hS] at hlt
      rcases Nat.eq_zero_or_pos r with h0 | h0
      · subst h0; omega
      · obtain rfl : r = 1 := by omega
        omega
    have hw2 : Below a.heap.size a w1 := bt hw (bo (b0 w) hO (Nat.le_refl _))
    have HS := Lib.hid hS
    have HV := Lib.hid hv2
    have HB := Lib.hid hb
    clear hS hv hv2 hb
    go_wp2_with fail
    refine (trim_own a _ w.heap.size l.length l.length (spl (zer l.length) 0 S) (val l - val k) (by omega) (Nat.le_refl _) hw.size HB.out (by rw [spl_length (by simp [zer_length, HS.out]), zer_length]; omega) ?_ hw2).mono ?_
    · rw [← HV.out]
      have := seg_spl (L := zer l.length) (o := 0) (S := S) (by simp [zer_length, HS.out])
      unfold seg at this
      rw [List.drop_zero, HS.out] at this
      exact congrArg val this
    · rintro e w2 h
      obtain ⟨A', c', l', rfl, hR⟩ := h
      go_wp2_with fail
      go_ret
      exact ⟨A', c', l', rfl, hR⟩
end Go.Proofs.YtaaipcjbmdbndaaDoor
