/- sum and difference. -/
import Derived.Test.YtaaipcjbmdbndaaDoorNumFold
import Derived.Test.YtaaipcjbmdbndaaDoorNumSmall
import Derived.Shelf.Abstract
namespace Go.Proofs.YtaaipcjbmdbndaaDoor
open Go.RowKit

/-- The box of a captured slice. -/
def Box (W : World) (p : Nat) (v : Value) : Prop := W.heap[p]? = some (.cells #[v] 22 (0, 0))
theorem Box.cell {W : World} {p : Nat} {v : Value} (h : Box W p v) : W.cell? ⟨p, 0, none⟩ = some v := by
  rw [cell_of_row W p 0 _ _ (0, 0) h]; rfl
theorem Box.lt {W : World} {p : Nat} {v : Value} (h : Box W p v) : p < W.heap.size := by
  rcases Nat.lt_or_ge p W.heap.size with hlt | hge
  · exact hlt
  · unfold Box at h; rw [Array.getElem?_eq_none hge] at h; cases h
theorem Box.only {W W' : World} {p g : Nat} {v : Value} (h : Box W p v) (hb : Only g W W') (hne : p ≠ g) : Box W' p v := (hb.block p h.lt (fun e => hne (by injection e))).trans h
theorem Box.new (W : World) (v : Value) : Box (W.alloc (.cells #[v] 22)) W.heap.size v := heap_alloc_new W _
theorem Box.below {W W' : World} {p : Nat} {v : Value} (h : Box W p v) (hb : Below W.heap.size W W') : Box W' p v := (hb.block p h.lt).trans h

theorem sum_step {vS K r t x y va vb : Nat} (hv : vS + K * r = va + vb) (ht : t = x + y + r) :
    vS + K * (t % 4294967296) + K * 4294967296 * (t / 4294967296) = va + K * x + (vb + K * y) := by
  have h1 : K * (t % 4294967296) + K * 4294967296 * (t / 4294967296) = K * t := by
    rw [Nat.mul_assoc, ← Nat.mul_add, Nat.mod_add_div]
  rw [Nat.add_assoc, h1, ht, Nat.mul_add, Nat.mul_add]
  omega

/-- The closure of 'sum': one word more. -/
def SumI (w0 : World) (g p : Nat) (n m : Nat) (l k : List Nat) (A B : Option Addr) (i : Nat) (s : Value) (W : World) : Prop :=
  ∃ (S : List Nat) (r : Nat), s = .int .u64 (r : Int) ∧ r ≤ 1 ∧ S.length = i ∧ (∀ x ∈ S, x < 4294967296) ∧ val S + BB i * r = val (l.take i) + val (k.take i) ∧ Blk W g (spl (zer n) 0 S) ∧ Box W p (.slice (some ⟨g, 0, none⟩) m m) ∧ WS W A l ∧ WS W B k ∧ Off A l g ∧ Off B k g ∧ p ≠ g ∧ Only g w0 W

theorem val_take_any (l : List Nat) (k : Nat) : val (l.take (k + 1)) = val (l.take k) + BB k * gd l k := by
  rcases Nat.lt_or_ge k l.length with h | h
  · exact val_take l h
  · rw [List.take_of_length_le h, List.take_of_length_le (by omega), gd_end h, Nat.mul_zero, Nat.add_zero]

set_option maxRecDepth 100000 in
set_option maxHeartbeats 400000 in
theorem sum1_any (w0 : World) (g p n : Nat) (l k : List Nat) (A B : Option Addr) (i : Nat) (s : Value) (W : World) (hi : i < n) (hn : n ≤ 4000000) (h : SumI w0 g p n n l k A B i s W) :
    Calls Tryd.prog 77 #[s, .int .i64 (i : Int), .int .u32 (gd l i : Int), .int .u32 (gd k i : Int), .pointer (some ⟨p, 0, none⟩)] W (FoldP (SumI w0 g p n n l k A B) (i + 1)) := by
  obtain ⟨S, r, rfl, hr, hS, hSw, hv, hb, hbox, hA, hB, hoA, hoB, hpg, hO⟩ := h
  have hc1 := hbox.cell
  have hx := hA.lt i
  have hy := hB.lt i
  have hlen : (spl (zer n) 0 S).length = n := by rw [spl_length (by rw [zer_length]; omega), zer_length]
  have hc2 := hb.cell (i := i) (by omega)
  have hf2 := hb.free i
  have H1 := Lib.hid (val_take_any l i)
  have H2 := Lib.hid (val_take_any k i)
  have HS := Lib.hid hS
  have HV := Lib.hid hv
  have HL := Lib.hid hlen
  have HB := Lib.hid hb
  clear hv hS hlen hb
  generalize gd (spl (zer n) 0 S) i = z at *
  generalize hxe : gd l i = x at *
  generalize hye : gd k i = y at *
  clear hxe hye
  go_enter Tryd.func77, Tryd.ntmps77
  go_wp2_with fail
  go_ret
  have et : (x + y + r) % 4294967296 < 4294967296 := Nat.mod_lt _ (by decide)
  refine ⟨.int .u64 ((x + y + r) / 4294967296 : Nat), ret_int (by omega), S ++ [(x + y + r) % 4294967296], (x + y + r) / 4294967296, rfl, by omega, by simp [HS.out], words_snoc hSw et, ?_, ?_, ?_, ?_, ?_, hoA, hoB, hpg, hO.set_ (.inl rfl) _⟩
  · rw [val_snoc, HS.out, H1.out, H2.out, BB_succ]
    exact sum_step HV.out rfl
  · have h := HB.out.set_ (i := i) et
    have h2 := spl_set (L := zer n) (o := 0) (S := S) ((x + y + r) % 4294967296) (by rw [zer_length, HS.out]; omega)
    rw [Nat.zero_add, HS.out] at h2
    rw [h2] at h
    exact h
  · exact hbox.only ((only_refl g W).set_ (.inl rfl) _) hpg
  · exact hA.only ((only_refl g W).set_ (.inl rfl) _) hoA
  · exact hB.only ((only_refl g W).set_ (.inl rfl) _) hoB

theorem enters1 : ∀ args W, (callFunc 77 args).run Tryd.prog W = .ok (.enter 77 args) W 
    := enters_of Tryd.func77 (by kernel_rfl) rfl


set_option maxRecDepth 100000 in
set_option maxHeartbeats 400000 in
theorem sum_le (a w : World) (A B : Option Addr) (n c m d : Nat) (l k : List Nat) (hn : l.length = n) (hm : k.length = m) (hmn : m ≤ n) (hn2 : n ≤ 2000000) (hl : WS w A l) (hk : WS w B k) (hw : Below a.heap.size a w) :
    Calls Tryd.prog 55 #[.slice A n c, .slice B m d] w (Res a (val l + val k)) := by
  subst hn hm
  have hmk := fun W => run_mk ((l.length : Int) + 1) (l.length + 1) (by simp) (by omega) W
  have hne : decide (l.length < k.length) = false := by simp; omega
  go_enter Tryd.func55, Tryd.ntmps55
  go_wp2_with fail
  refine (fold64 77 (.pointer (some ⟨w.heap.size + 1, 0, none⟩)) A B l.length c k.length d l k (SumI w w.heap.size (w.heap.size + 1) (l.length + 1) (l.length + 1) l k A B) rfl rfl (by omega) (by omega) enters1
    (fun i s W h => by obtain ⟨S, r, _, _, _, _, _, _, _, h, _⟩ := h; exact h) (fun i s W h => by obtain ⟨S, r, _, _, _, _, _, _, _, _, h, _⟩ := h; exact h)
    (fun i s W hi h => sum1_any w w.heap.size (w.heap.size + 1) (l.length + 1) l k A B i s W (by omega) (by omega) h) (.int .u64 0) _ ?h0).mono ?_
  case h0 =>
    exact ⟨[], 0, rfl, by omega, rfl, by simp, by simp [val], by rw [spl_nil]; exact (Blk.new w _ (zer_lt _)).alloc _, (by have := Box.new (w.alloc (.cells (words (zer (l.length + 1))) 58)) (.slice (some ⟨w.heap.size, 0, none⟩) (l.length + 1) (l.length + 1)); simpa using this),
      hl.below (ba (ba (b0 _) _) _), hk.below (ba (ba (b0 _) _) _), hl.off (Nat.le_refl _), hk.off (Nat.le_refl _), by omega, Only.mono (ba (ba (b0 _) _) _)⟩
  · rintro e w1 ⟨s', rfl, S, r, rfl, hr, hS, hSw, hv, hb, hbox, hA, hB, hoA, hoB, hpg, hO⟩
    have hc1 := hbox.cell
    have hlen : (spl (zer (l.length + 1)) 0 S).length = l.length + 1 := by rw [spl_length (by rw [zer_length]; omega), zer_length]
    have hc2 := hb.cell (i := l.length) (by omega)
    have hf2 := hb.free l.length
    have hr2 : r < 4294967296 := by omega
    have hb2 := hb.set_ (i := l.length) hr2
    rw [show l.length = 0 + S.length from by omega, spl_set _ (by rw [zer_length]; omega), ← show l.length = 0 + S.length from by omega] at hb2
    have hv2 : val (S ++ [r]) = val l + val k := by
      rw [val_snoc, hS, hv, List.take_length, List.take_of_length_le hmn]
    have hw2 : Below a.heap.size a (w1.setCell ⟨w.heap.size, l.length, none⟩ (.int .u32 (r : Int))) := bs (bt hw (bo (b0 w) hO (Nat.le_refl _))) (by have := hw.size; simp; omega) _
    have HS := Lib.hid hS
    have HV := Lib.hid hv2
    have HB := Lib.hid hb2
    have HL := Lib.hid hlen
    clear hS hv hv2 hb2 hlen hb
    generalize gd (spl (zer (l.length + 1)) 0 S) l.length = z at *
    go_wp2_with fail
    refine (trim_own a _ w.heap.size (l.length + 1) (l.length + 1) (spl (zer (l.length + 1)) 0 (S ++ [r])) (val l + val k) (by omega) (Nat.le_refl _) hw.size HB.out (by rw [spl_length (by simp [zer_length, HS.out]), zer_length]; omega) ?_ hw2).mono ?_
    · rw [← HV.out]
      have := seg_spl (L := zer (l.length + 1)) (o := 0) (S := S ++ [r]) (by simp [zer_length, HS.out])
      unfold seg at this
      rw [List.drop_zero, List.length_append, HS.out] at this
      exact congrArg val this
    · rintro e w2 h
      obtain ⟨A', c', l', rfl, hR⟩ := h
      go_wp2_with fail
      go_ret
      exact ⟨A', c', l', rfl, hR⟩

set_option maxRecDepth 100000 in
set_option maxHeartbeats 400000 in
theorem sum_lt (a w : World) (A B : Option Addr) (n c m d : Nat) (l k : List Nat) (hn : l.length = n) (hm : k.length = m) (hmn : n < m) (hn2 : m ≤ 2000000) (hl : WS w A l) (hk : WS w B k) (hw : Below a.heap.size a w) :
    Calls Tryd.prog 55 #[.slice A n c, .slice B m d] w (Res a (val l + val k)) := by
  subst hn hm
  have hmk := fun W => run_mk ((k.length : Int) + 1) (k.length + 1) (by simp) (by omega) W
  have hne : decide (l.length < k.length) = true := by simp; omega
  go_enter Tryd.func55, Tryd.ntmps55
  go_wp2_with fail
  refine (fold64 77 (.pointer (some ⟨w.heap.size + 1, 0, none⟩)) B A k.length d l.length c k l (SumI w w.heap.size (w.heap.size + 1) (k.length + 1) (k.length + 1) k l B A) rfl rfl (by omega) (by omega) enters1
    (fun i s W h => by obtain ⟨S, r, _, _, _, _, _, _, _, h, _⟩ := h; exact h) (fun i s W h => by obtain ⟨S, r, _, _, _, _, _, _, _, _, h, _⟩ := h; exact h)
    (fun i s W hi h => sum1_any w w.heap.size (w.heap.size + 1) (k.length + 1) k l B A i s W (by omega) (by omega) h) (.int .u64 0) _ ?h0).mono ?_
  case h0 =>
    exact ⟨[], 0, rfl, by omega, rfl, by simp, by simp [val], by rw [spl_nil]; exact (Blk.new w _ (zer_lt _)).alloc _, (by have := Box.new (w.alloc (.cells (words (zer (k.length + 1))) 58)) (.slice (some ⟨w.heap.size, 0, none⟩) (k.length + 1) (k.length + 1)); simpa using this),
      hk.below (ba (ba (b0 _) _) _), hl.below (ba (ba (b0 _) _) _), hk.off (Nat.le_refl _), hl.off (Nat.le_refl _), by omega, Only.mono (ba (ba (b0 _) _) _)⟩
  · rintro e w1 ⟨s', rfl, S, r, rfl, hr, hS, hSw, hv, hb, hbox, hA, hB, hoA, hoB, hpg, hO⟩
    have hc1 := hbox.cell
    have hlen : (spl (zer (k.length + 1)) 0 S).length = k.length + 1 := by rw [spl_length (by rw [zer_length]; omega), zer_length]
    have hc2 := hb.cell (i := k.length) (by omega)
    have hf2 := hb.free k.length
    have hr2 : r < 4294967296 := by omega
    have hb2 := hb.set_ (i := k.length) hr2
    rw [show k.length = 0 + S.length from by omega, spl_set _ (by rw [zer_length]; omega), ← show k.length = 0 + S.length from by omega] at hb2
    have hv2 : val (S ++ [r]) = val l + val k := by
      rw [val_snoc, hS, hv, List.take_length, List.take_of_length_le (by omega), Nat.add_comm]
    have hw2 : Below a.heap.size a (w1.setCell ⟨w.heap.size, k.length, none⟩ (.int .u32 (r : Int))) := bs (bt hw (bo (b0 w) hO (Nat.le_refl _))) (by have := hw.size; simp; omega) _
    have HS := Lib.hid hS
    have HV := Lib.hid hv2
    have HB := Lib.hid hb2
    have HL := Lib.hid hlen
    clear hS hv hv2 hb2 hlen hb
    generalize gd (spl (zer (k.length + 1)) 0 S) k.length = z at *
    go_wp2_with fail
    refine (trim_own a _ w.heap.size (k.length + 1) (k.length + 1) (spl (zer (k.length + 1)) 0 (S ++ [r])) (val l + val k) (by omega) (Nat.le_refl _) hw.size HB.out (by rw [spl_length (by simp [zer_length, HS.out]), zer_length]; omega) ?_ hw2).mono ?_
    · rw [← HV.out]
      have := seg_spl (L := zer (k.length + 1)) (o := 0) (S := S ++ [r]) (by simp [zer_length, HS.out])
      unfold seg at this
      rw [List.drop_zero, List.length_append, HS.out] at this
      exact congrArg val this
    · rintro e w2 h
      obtain ⟨A', c', l', rfl, hR⟩ := h
      go_wp2_with fail
      go_ret
      exact ⟨A', c', l', rfl, hR⟩

theorem sum_any (a w : World) (A B : Option Addr) (n c m d : Nat) (l k : List Nat) (hn : l.length = n) (hm : k.length = m) (hn2 : n ≤ 2000000) (hm2 : m ≤ 2000000) (hl : WS w A l) (hk : WS w B k) (hw : Below a.heap.size a w) :
    Calls Tryd.prog 55 #[.slice A n c, .slice B m d] w (Res a (val l + val k)) := by
  rcases Nat.lt_or_ge n m with h | h
  · exact sum_lt a w A B n c m d l k hn hm h hm2 hl hk hw
  · exact sum_le a w A B n c m d l k hn hm h hn2 hl hk hw
end Go.Proofs.YtaaipcjbmdbndaaDoor
