import Derived.Shelf.Abstract
import Derived.Deep.RegionWith
import Derived.Test.YtgljdfblgpdaaaaGreatDoorPbNumA
set_option linter.unusedSimpArgs false
set_option linter.unusedVariables false
set_option maxRecDepth 100000
set_option maxHeartbeats 4000000
namespace Go.Proofs.YtgljdfblgpdaaaaGreatDoor
open Go.RowKit
variable {K a i j n p r t vS va vb x y : Nat} {L R S k l : List Nat} {W W' : World} {v : Value}
def Box (W : World) (p : Nat) (v : Value) : Prop := W.heap[p]? = some (.cells #[v] 22 (0, 0))
theorem Box.cell (h : Box W p v) : W.cell? ⟨p, 0, none⟩ = some v := by
 rw [cell_of_row W p 0 _ _ (0, 0) h]; rfl
theorem Box.lt (h : Box W p v) : p < W.heap.size := by
 rcases Nat.lt_or_ge p W.heap.size with hlt | hge
 ·exact hlt
 ·unfold Box at h; rw [Array.getElem?_eq_none hge] at h; cases h
theorem Box.only {p g : Nat} (h : Box W p v) (hb : Only g W W') (hne : p ≠ g) : Box W' p v := (hb.block p h.lt (fun e => hne (by injection e))).trans h
theorem Box.new (W : World) (v : Value) : Box (W.alloc (.cells #[v] 22)) W.heap.size v := heap_alloc_new W _
theorem Box.below (h : Box W p v) (hb : Below W.heap.size W W') : Box W' p v := (hb.block p h.lt).trans h
theorem sum_step (hv : vS + K * r = va + vb) (ht : t = x + y + r) :
  vS + K * (t % 4294967296) + K * 4294967296 * (t / 4294967296) = va + K * x + (vb + K * y) := by
 have h1 : K * (t % 4294967296) + K * 4294967296 * (t / 4294967296) = K * t := by
  rw [Nat.mul_assoc, ← Nat.mul_add, Nat.mod_add_div]
 rw [Nat.add_assoc, h1, ht, Nat.mul_add, Nat.mul_add]
 omega
def SumI (w0 : World) (g p : Nat) (n m : Nat) (l k : List Nat) (A B : Option Addr) (i : Nat) (s : Value) (W : World) : Prop :=
 ∃ (S : List Nat) (r : Nat), s = .int .u64 (r : Int) ∧ r ≤ 1 ∧ S.length = i ∧ (∀ x ∈ S, x < 4294967296) ∧ val S + BB i * r = val (l.take i) + val (k.take i) ∧ Blk W g (spl (zer n) 0 S) ∧ Box W p (.slice (some ⟨g, 0, none⟩) m m) ∧ WS W A l ∧ WS W B k ∧ Off A l g ∧ Off B k g ∧ p ≠ g ∧ Only g w0 W
theorem val_take_any (l : List Nat) (k : Nat) : val (l.take (k + 1)) = val (l.take k) + BB k * gd l k := by
 rcases Nat.lt_or_ge k l.length with h | h
 ·exact val_take l h
 ·rw [List.take_of_length_le h, List.take_of_length_le (by omega), gd_end h, Nat.mul_zero, Nat.add_zero]
theorem sum1_any (w0 : World) (g p n : Nat) (l k : List Nat) (A B : Option Addr) (i : Nat) (s : Value) (W : World) (hi : i < n) (hn : n ≤ 4000000) (h : SumI w0 g p n n l k A B i s W) :
  Calls Tryz.prog 142 #[s, .int .i64 (i : Int), .int .u32 (gd l i : Int), .int .u32 (gd k i : Int), .pointer (some ⟨p, 0, none⟩)] W (FoldP (SumI w0 g p n n l k A B) (i + 1)) := by
 obtain ⟨S, r, rfl, hr, hS, hSw, hv, hb, hbox, hA, hB, hoA, hoB, hpg, hO⟩ := h
 have hc1 := hbox.cell
 have hx := hA.lt i
 have hy := hB.lt i
 have hlen : (spl (zer n) 0 S).length = n := by rw [spl_length (by rw [zer_length]; omega), zer_length]
 have hc2 := hb.cell (i := i) (by omega)
 have hf2 := hb.free i
 have H1 := Hi (val_take_any l i)
 have H2 := Hi (val_take_any k i)
 have HS := Hi hS
 have HV := Hi hv
 have HL := Hi hlen
 have HB := Hi hb
 clear hv hS hlen hb
 generalize gd (spl (zer n) 0 S) i = z at *
 generalize hxe : gd l i = x at *
 generalize hye : gd k i = y at *
 clear hxe hye
 go_enter Tryz.func142, Tryz.ntmps142
 go_wp2_with fail
 go_ret
 have et : (x + y + r) % 4294967296 < 4294967296 := Nat.mod_lt _ (by decide)
 refine ⟨.int .u64 ((x + y + r) / 4294967296 : Nat), ret_int (by omega), S ++ [(x + y + r) % 4294967296], (x + y + r) / 4294967296, rfl, by omega, by simp [HS.out], words_snoc hSw et, ?_, ?_, ?_, ?_, ?_, hoA, hoB, hpg, hO.set_ (.inl rfl) _⟩
 ·rw [val_snoc, HS.out, H1.out, H2.out, BB_succ]
  exact sum_step HV.out rfl
 ·have h := HB.out.set_ (i := i) et
  have h2 := spl_set (L := zer n) (o := 0) (S := S) ((x + y + r) % 4294967296) (by rw [zer_length, HS.out]; omega)
  rw [Nat.zero_add, HS.out] at h2
  rw [h2] at h
  exact h
 ·exact hbox.only ((only_refl g W).set_ (.inl rfl) _) hpg
 ·exact hA.only ((only_refl g W).set_ (.inl rfl) _) hoA
 ·exact hB.only ((only_refl g W).set_ (.inl rfl) _) hoB
theorem enters1 : ∀ args W, (callFunc 142 args).run Tryz.prog W = .ok (.enter 142 args) W
  := enters_of Tryz.func142 (by kernel_rfl) rfl
theorem mae45d {P : Prop} (h : P := by
 obtain ⟨A', c', l', rfl, hR⟩ := h
 go_wp2_with fail
 go_ret
 exact ⟨A', c', l', rfl, hR⟩) : P := h
theorem m0151e {P : Prop} (h : P := by
 have := seg_spl (L := zer (l.length + 1)) (o := 0) (S := S ++ [r]) (by simp [zer_length, HS.out])
 unfold seg at this
 rw [List.drop_zero, List.length_append, HS.out] at this
 exact congrArg val this) : P := h
theorem sum_le (a w : World) (A B : Option Addr) (n c m d : Nat) (l k : List Nat) (hn : l.length = n) (hm : k.length = m) (hmn : m ≤ n) (hn2 : n ≤ 2000000) (hl : WS w A l) (hk : WS w B k) (hw : Below a.heap.size a w) :
  Calls Tryz.prog 87 #[.slice A n c, .slice B m d] w (Res a (val l + val k)) := by
 subst hn hm
 have hmk := fun W => run_mk ((l.length : Int) + 1) (l.length + 1) (by simp) (by omega) W
 have hne : decide (l.length < k.length) = false := by simp; omega
 go_enter Tryz.func87, Tryz.ntmps87
 go_wp2_with fail
 refine (fold64 142 (.pointer (some ⟨w.heap.size + 1, 0, none⟩)) A B l.length c k.length d l k (SumI w w.heap.size (w.heap.size + 1) (l.length + 1) (l.length + 1) l k A B) rfl rfl (by omega) (by omega) enters1
  (fun i s W h => by obtain ⟨S, r, _, _, _, _, _, _, _, h, _⟩ := h; exact h) (fun i s W h => by obtain ⟨S, r, _, _, _, _, _, _, _, _, h, _⟩ := h; exact h)
  (fun i s W hi h => sum1_any w w.heap.size (w.heap.size + 1) (l.length + 1) l k A B i s W (by omega) (by omega) h) (.int .u64 0) _ ?h0).mono ?_
 case h0 =>
  exact ⟨[], 0, rfl, by omega, rfl, by simp, by simp [val], by rw [spl_nil]; exact (Blk.new w _ (zer_lt _)).alloc _, (by have := Box.new (w.alloc (.cells (words (zer (l.length + 1))) 83)) (.slice (some ⟨w.heap.size, 0, none⟩) (l.length + 1) (l.length + 1)); simpa using this),
   hl.below (ba (ba (b0 _) _) _), hk.below (ba (ba (b0 _) _) _), hl.off (Nat.le_refl _), hk.off (Nat.le_refl _), by omega, Only.mono (ba (ba (b0 _) _) _)⟩
 ·rintro e w1 ⟨s', rfl, S, r, rfl, hr, hS, hSw, hv, hb, hbox, hA, hB, hoA, hoB, hpg, hO⟩
  have hc1 := hbox.cell
  have hlen : (spl (zer (l.length + 1)) 0 S).length = l.length + 1 := by rw [spl_length (by rw [zer_length]; omega), zer_length]
  have hc2 := hb.cell (i := l.length) (by omega)
  have hf2 := hb.free l.length
  have hr2 : r < 4294967296 := by omega
  have hb2 := hb.set_ (i := l.length) hr2
  rw [show l.length = 0 + S.length from by omega, spl_set _ (by rw [zer_length]; omega), ← show l.length = 0 + S.length from by omega] at hb2
  have hv2 : val (S ++ [r]) = val l + val k := by
   rw [val_snoc, hS, hv, List.take_length, List.take_of_length_le hmn]
  have hw2 : Below a.heap.size a (w1.setCell ⟨w.heap.size, l.length, none⟩ (.int .u32 (r : Int))) := bs (bt hw (bo (b0 w) hO (Nat.le_refl _))) (by have := hw.size; simp; omega) _
  have HS := Hi hS
  have HV := Hi hv2
  have HB := Hi hb2
  have HL := Hi hlen
  clear hS hv hv2 hb2 hlen hb
  generalize gd (spl (zer (l.length + 1)) 0 S) l.length = z at *
  go_wp2_with fail
  refine (trim_own a _ w.heap.size (l.length + 1) (l.length + 1) (spl (zer (l.length + 1)) 0 (S ++ [r])) (val l + val k) (by omega) (Nat.le_refl _) hw.size HB.out (by rw [spl_length (by simp [zer_length, HS.out]), zer_length]; omega) ?_ hw2).mono ?_
  ·rw [← HV.out]
   exact m0151e
  ·rintro e w2 h
   exact mae45d
theorem sum_lt (a w : World) (A B : Option Addr) (n c m d : Nat) (l k : List Nat) (hn : l.length = n) (hm : k.length = m) (hmn : n < m) (hn2 : m ≤ 2000000) (hl : WS w A l) (hk : WS w B k) (hw : Below a.heap.size a w) :
  Calls Tryz.prog 87 #[.slice A n c, .slice B m d] w (Res a (val l + val k)) := by
 subst hn hm
 have hmk := fun W => run_mk ((k.length : Int) + 1) (k.length + 1) (by simp) (by omega) W
 have hne : decide (l.length < k.length) = true := by simp; omega
 go_enter Tryz.func87, Tryz.ntmps87
 go_wp2_with fail
 refine (fold64 142 (.pointer (some ⟨w.heap.size + 1, 0, none⟩)) B A k.length d l.length c k l (SumI w w.heap.size (w.heap.size + 1) (k.length + 1) (k.length + 1) k l B A) rfl rfl (by omega) (by omega) enters1
  (fun i s W h => by obtain ⟨S, r, _, _, _, _, _, _, _, h, _⟩ := h; exact h) (fun i s W h => by obtain ⟨S, r, _, _, _, _, _, _, _, _, h, _⟩ := h; exact h)
  (fun i s W hi h => sum1_any w w.heap.size (w.heap.size + 1) (k.length + 1) k l B A i s W (by omega) (by omega) h) (.int .u64 0) _ ?h0).mono ?_
 case h0 =>
  exact ⟨[], 0, rfl, by omega, rfl, by simp, by simp [val], by rw [spl_nil]; exact (Blk.new w _ (zer_lt _)).alloc _, (by have := Box.new (w.alloc (.cells (words (zer (k.length + 1))) 83)) (.slice (some ⟨w.heap.size, 0, none⟩) (k.length + 1) (k.length + 1)); simpa using this),
   hk.below (ba (ba (b0 _) _) _), hl.below (ba (ba (b0 _) _) _), hk.off (Nat.le_refl _), hl.off (Nat.le_refl _), by omega, Only.mono (ba (ba (b0 _) _) _)⟩
 ·rintro e w1 ⟨s', rfl, S, r, rfl, hr, hS, hSw, hv, hb, hbox, hA, hB, hoA, hoB, hpg, hO⟩
  have hc1 := hbox.cell
  have hlen : (spl (zer (k.length + 1)) 0 S).length = k.length + 1 := by rw [spl_length (by rw [zer_length]; omega), zer_length]
  have hc2 := hb.cell (i := k.length) (by omega)
  have hf2 := hb.free k.length
  have hr2 : r < 4294967296 := by omega
  have hb2 := hb.set_ (i := k.length) hr2
  rw [show k.length = 0 + S.length from by omega, spl_set _ (by rw [zer_length]; omega), ← show k.length = 0 + S.length from by omega] at hb2
  have hv2 : val (S ++ [r]) = val l + val k := by
   rw [val_snoc, hS, hv, List.take_length, List.take_of_length_le (by omega), Nat.add_comm]
  have hw2 : Below a.heap.size a (w1.setCell ⟨w.heap.size, k.length, none⟩ (.int .u32 (r : Int))) := bs (bt hw (bo (b0 w) hO (Nat.le_refl _))) (by have := hw.size; simp; omega) _
  have HS := Hi hS
  have HV := Hi hv2
  have HB := Hi hb2
  have HL := Hi hlen
  clear hS hv hv2 hb2 hlen hb
  generalize gd (spl (zer (k.length + 1)) 0 S) k.length = z at *
  go_wp2_with fail
  refine (trim_own a _ w.heap.size (k.length + 1) (k.length + 1) (spl (zer (k.length + 1)) 0 (S ++ [r])) (val l + val k) (by omega) (Nat.le_refl _) hw.size HB.out (by rw [spl_length (by simp [zer_length, HS.out]), zer_length]; omega) ?_ hw2).mono ?_
  ·rw [← HV.out]
   have := seg_spl (L := zer (k.length + 1)) (o := 0) (S := S ++ [r]) (by simp [zer_length, HS.out])
   unfold seg at this
   rw [List.drop_zero, List.length_append, HS.out] at this
   exact congrArg val this
  ·rintro e w2 h
   exact mae45d
theorem sum_any (a w : World) (A B : Option Addr) (n c m d : Nat) (l k : List Nat) (hn : l.length = n) (hm : k.length = m) (hn2 : n ≤ 2000000) (hm2 : m ≤ 2000000) (hl : WS w A l) (hk : WS w B k) (hw : Below a.heap.size a w) :
  Calls Tryz.prog 87 #[.slice A n c, .slice B m d] w (Res a (val l + val k)) := by
 rcases Nat.lt_or_ge n m with h | h
 ·exact sum_lt a w A B n c m d l k hn hm h hm2 hl hk hw
 ·exact sum_le a w A B n c m d l k hn hm h hn2 hl hk hw
open Go.RowKit
variable {K a i j n p r t vS va vb x y : Nat} {L R S k l : List Nat} {W W' : World} {v : Value}
def DiffI (w0 : World) (g p : Nat) (n : Nat) (l k : List Nat) (A B : Option Addr) (i : Nat) (s : Value) (W : World) : Prop :=
 ∃ (S : List Nat) (r : Nat), s = .int .i64 (-(r : Int)) ∧ r ≤ 1 ∧ S.length = i ∧ (∀ x ∈ S, x < 4294967296) ∧ val S + val (k.take i) = val (l.take i) + BB i * r ∧ Blk W g (spl (zer n) 0 S) ∧ Box W p (.slice (some ⟨g, 0, none⟩) n n) ∧ WS W A l ∧ WS W B k ∧ Off A l g ∧ Off B k g ∧ p ≠ g ∧ Only g w0 W
theorem diff_step {vS K r q t x y va vb : Nat} (hv : vS + vb = va + K * r) (ht : t + y + r = x + 4294967296 * q) :
  vS + K * t + (vb + K * y) = va + K * x + K * 4294967296 * q := by
 have h1 : K * (t + y + r) = K * (x + 4294967296 * q) := by rw [ht]
 rw [Nat.mul_add, Nat.mul_add, Nat.mul_add] at h1
 rw [Nat.mul_assoc]
 omega
theorem diff1_any (w0 : World) (g p n : Nat) (l k : List Nat) (A B : Option Addr) (i : Nat) (s : Value) (W : World) (hi : i < n) (hn : n ≤ 4000000) (h : DiffI w0 g p n l k A B i s W) :
  Calls Tryz.prog 144 #[s, .int .i64 (i : Int), .int .u32 (gd l i : Int), .int .u32 (gd k i : Int), .pointer (some ⟨p, 0, none⟩)] W (FoldP (DiffI w0 g p n l k A B) (i + 1)) := by
 obtain ⟨S, r, rfl, hr, hS, hSw, hv, hb, hbox, hA, hB, hoA, hoB, hpg, hO⟩ := h
 have hc1 := hbox.cell
 have hx := hA.lt i
 have hy := hB.lt i
 have hlen : (spl (zer n) 0 S).length = n := by rw [spl_length (by rw [zer_length]; omega), zer_length]
 have hc2 := hb.cell (i := i) (by omega)
 have hf2 := hb.free i
 have H1 := Hi (val_take_any l i)
 have H2 := Hi (val_take_any k i)
 have HS := Hi hS
 have HV := Hi hv
 have HL := Hi hlen
 have HB := Hi hb
 clear hv hS hlen hb
 generalize gd (spl (zer n) 0 S) i = z at *
 generalize hxe : gd l i = x at *
 generalize hye : gd k i = y at *
 clear hxe hye
 obtain ⟨q, t, hq, ht, htl⟩ : ∃ q t : Nat, q ≤ 1 ∧ t + y + r = x + 4294967296 * q ∧ t < 4294967296 := by
  by_cases h : y + r ≤ x
  ·exact ⟨0, x - y - r, by omega, by omega, by omega⟩
  ·exact ⟨1, x + 4294967296 - y - r, by omega, by omega, by omega⟩
 have e1 : (x : Int) - (y : Int) + -(r : Int) = (t : Int) - 4294967296 * (q : Int) := by omega
 have HT := Hi ht
 clear ht
 go_enter Tryz.func144, Tryz.ntmps144
 go_wp2_with fail
 go_ret
 have em : ((t : Int) % 4294967296) = (t : Int) := by omega
 rw [em]
 refine ⟨.int .i64 (-(q : Int)), ret_int (by omega), S ++ [t], q, rfl, hq, by simp [HS.out], words_snoc hSw htl, ?_, ?_, ?_, ?_, ?_, hoA, hoB, hpg, hO.set_ (.inl rfl) _⟩
 ·rw [val_snoc, HS.out, H1.out, H2.out, BB_succ]
  exact diff_step HV.out HT.out
 ·have h := HB.out.set_ (i := i) htl
  have h2 := spl_set (L := zer n) (o := 0) (S := S) t (by rw [zer_length, HS.out]; omega)
  rw [Nat.zero_add, HS.out] at h2
  rw [h2] at h
  exact h
 ·exact hbox.only ((only_refl g W).set_ (.inl rfl) _) hpg
 ·exact hA.only ((only_refl g W).set_ (.inl rfl) _) hoA
 ·exact hB.only ((only_refl g W).set_ (.inl rfl) _) hoB
theorem enters2 : ∀ args W, (callFunc 144 args).run Tryz.prog W = .ok (.enter 144 args) W := enters_of Tryz.func144 (by kernel_rfl) rfl
theorem difference_any (a w : World) (A B : Option Addr) (n c m d : Nat) (l k : List Nat) (hn : l.length = n) (hm : k.length = m) (hmn : m ≤ n) (hn2 : n ≤ 4000000) (hle : val k ≤ val l) (hl : WS w A l) (hk : WS w B k) (hw : Below a.heap.size a w) :
  Calls Tryz.prog 88 #[.slice A n c, .slice B m d] w (Res a (val l - val k)) := by
 subst hn hm
 have hmk := fun W => run_mk (l.length : Int) l.length rfl (by omega) W
 go_enter Tryz.func88, Tryz.ntmps88
 go_wp2_with fail
 refine (foldI 144 (.pointer (some ⟨w.heap.size + 1, 0, none⟩)) A B l.length c k.length d l k (DiffI w w.heap.size (w.heap.size + 1) l.length l k A B) rfl rfl (by omega) (by omega) enters2
  (fun i s W h => by obtain ⟨S, r, _, _, _, _, _, _, _, h, _⟩ := h; exact h) (fun i s W h => by obtain ⟨S, r, _, _, _, _, _, _, _, _, h, _⟩ := h; exact h)
  (fun i s W hi h => diff1_any w w.heap.size (w.heap.size + 1) l.length l k A B i s W (by omega) (by omega) h) (.int .i64 0) _ ?h0).mono ?_
 case h0 =>
  exact ⟨[], 0, by simp, by omega, rfl, by simp, by simp [val], by rw [spl_nil]; exact (Blk.new w _ (zer_lt _)).alloc _, (by have := Box.new (w.alloc (.cells (words (zer l.length)) 83)) (.slice (some ⟨w.heap.size, 0, none⟩) l.length l.length); simpa using this),
   hl.below (ba (ba (b0 _) _) _), hk.below (ba (ba (b0 _) _) _), hl.off (Nat.le_refl _), hk.off (Nat.le_refl _), by omega, Only.mono (ba (ba (b0 _) _) _)⟩
 ·rintro e w1 ⟨s', rfl, S, r, rfl, hr, hS, hSw, hv, hb, hbox, hA, hB, hoA, hoB, hpg, hO⟩
  have hc1 := hbox.cell
  have hv2 : val S = val l - val k := by
   rw [List.take_length, List.take_of_length_le hmn] at hv
   have hlt := val_lt hSw
   rw [hS] at hlt
   rcases Nat.eq_zero_or_pos r with h0 | h0
   ·subst h0; omega
   ·obtain rfl : r = 1 := by omega
    omega
  have hw2 : Below a.heap.size a w1 := bt hw (bo (b0 w) hO (Nat.le_refl _))
  have HS := Hi hS
  have HV := Hi hv2
  have HB := Hi hb
  clear hS hv hv2 hb
  go_wp2_with fail
  refine (trim_own a _ w.heap.size l.length l.length (spl (zer l.length) 0 S) (val l - val k) (by omega) (Nat.le_refl _) hw.size HB.out (by rw [spl_length (by simp [zer_length, HS.out]), zer_length]; omega) ?_ hw2).mono ?_
  ·rw [← HV.out]
   have := seg_spl (L := zer l.length) (o := 0) (S := S) (by simp [zer_length, HS.out])
   unfold seg at this
   rw [List.drop_zero, HS.out] at this
   exact congrArg val this
  ·rintro e w2 h
   exact mae45d
open Go.RowKit
variable {K a i j n p r t vS va vb x y : Nat} {L R S k l : List Nat} {W W' : World} {v : Value}
theorem zer_append (m n : Nat) : zer (m + n) = zer m ++ zer n := by simp [zer]
theorem seg_mid (h : i + n = S.length) : seg (S ++ R) i n = S.drop i := by
 unfold seg
 rw [List.drop_append_of_le_length (by omega), List.take_append_of_le_length (by simp; omega), List.take_of_length_le (by simp; omega)]
theorem spl_zer (N : Nat) (S : List Nat) : spl (zer N) 0 S = S ++ zer (N - S.length) := by simp [spl, zer]
theorem spl_row {S S' : List Nat} {N i : Nat} (r : Nat) (h : i + S'.length = S.length) (hN : S.length < N) :
  (spl (spl (zer N) 0 S) i S').set (i + S'.length) r = spl (zer N) 0 (S.take i ++ S' ++ [r]) := by
 have h1 : spl (spl (zer N) 0 S) i S' = (S.take i ++ S') ++ zer (N - S.length) := by
  rw [spl_zer]
  unfold spl
  rw [List.take_append_of_le_length (by omega), h, List.drop_left]
 have h2 : zer (N - S.length) = 0 :: zer (N - S.length - 1) := by
  obtain ⟨m, hm⟩ : ∃ m, N - S.length = m + 1 := ⟨N - S.length - 1, by omega⟩
  rw [hm]; simp [zer, List.replicate_succ]
 have h5 : N - (S.take i ++ S' ++ [r]).length = N - S.length - 1 := by
  simp only [List.length_append, List.length_take, List.length_cons, List.length_nil]; omega
 have h3 : i + S'.length = (S.take i ++ S').length := by rw [List.length_append, List.length_take, Nat.min_eq_left (show i ≤ S.length from by omega)]
 rw [h1, h2, spl_zer, h5, h3, List.set_append_right _ _ (Nat.le_refl _), Nat.sub_self]
 simp only [List.set_cons_zero, List.append_assoc, List.cons_append, List.nil_append]
theorem rows_step {vS K vt vd r y a b n : Nat} (h0 : vS = vt + K * vd) (h1 : vS = a * b) {v' : Nat} (h2 : v' + n * r = vd + y * a) : vt + K * v' + K * n * r = a * (b + K * y) := by
 have h3 : K * (v' + n * r) = K * (vd + y * a) := by rw [h2]
 rw [Nat.mul_add, Nat.mul_add] at h3
 rw [Nat.mul_add, Nat.mul_assoc]
 have h4 : a * (K * y) = K * (y * a) := by rw [Nat.mul_comm y a, Nat.mul_left_comm]
 omega
theorem byRows_any (g N : Nat) (A B : Option Addr) (n c m d : Nat) (l k : List Nat) (w : World) (hn : l.length = n) (hm : k.length = m) (hN : N = n + m) (h0 : 0 < n) (hn2 : N ≤ 4000000)
  (hg : Blk w g (zer N)) (hl : WS w A l) (hk : WS w B k) (hoA : Off A l g) (hoB : Off B k g) :
  Calls Tryz.prog 152 #[.slice (some ⟨g, 0, none⟩) N N, .slice A n c, .slice B m d] w fun e w' =>
   ∃ S : List Nat, e = .returned (.tuple #[]) ∧ S.length = N ∧ val S = val l * val k ∧ Blk w' g S ∧ Only g w w' := by
 subst hn hm
 go_enter Tryz.func152, Tryz.ntmps152
 go_wp2_with fail
 go_loopw [10] (fun iv wr => ∃ (i : Nat) (S : List Nat), i ≤ k.length ∧ iv = .int .i64 i ∧ S.length = l.length + i ∧ val S = val l * val (k.take i) ∧ Blk wr g (spl (zer N) 0 S) ∧ Only g w wr) (fun iv _ => k.length - (intOf iv).toNat)
 case atStart => exact ⟨0, zer l.length, Nat.zero_le _, rfl, by simp [zer_length], by simp [val_zer, val], by rw [spl_zer, zer_length, ← zer_append, show l.length + (N - l.length) = N from by omega]; exact hg, only_refl _ _⟩
 case round =>
  obtain ⟨i, S, hi, rfl, hS, hv, hb, hO⟩ := hrel
  by_cases hlt : i < k.length
  ·obtain ⟨b, off, rfl, hblt, hc⟩ := (hk.only hO hoB).at_ (by omega)
   have hc1 := hc i hlt
   have hy := hk.lt i
   have H1 := Hi (val_take k hlt)
   have HS := Hi hS
   have HV := Hi hv
   have HN := Hi hN
   have hNi : i + l.length < N := by omega
   have hiN : decide (N = i) = false := by simp; omega
   clear hc hS hv hN
   generalize gd k i = y at *
   go_wp2_with fail
   have hsl : (spl (zer N) 0 S).length = N := by rw [spl_length (by rw [zer_length, HS.out]; omega), zer_length]
   refine (addRow_any g i (N - i) (N - i) (spl (zer N) 0 S) A l.length c l y wr rfl (by omega) (by omega) (by rw [hsl]; omega) hy hb (hl.only hO hoA) hoA).mono ?_
   rintro e w1 ⟨S', r, rfl, hr, hS', hSw', hv', hb', hO'⟩
   have HS' := Hi hS'
   have hsl' : (spl (spl (zer N) 0 S) i S').length = N := by rw [spl_length (by rw [hsl, HS'.out]; omega), hsl]
   have hc2 := hb'.cell (i := i + l.length) (by rw [hsl']; omega)
   have hf2 := hb'.free (i + l.length)
   have hb2 := hb'.set_ (i := i + l.length) hr
   have hrow := spl_row (S := S) (S' := S') (N := N) (i := i) r (by rw [HS'.out, HS.out]; omega) (by rw [HS.out]; omega)
   rw [HS'.out] at hrow
   rw [hrow] at hb2
   have HB2 := Hi hb2
   have hseg : seg (spl (zer N) 0 S) i l.length = S.drop i := by rw [spl_zer]; exact seg_mid (by rw [HS.out]; omega)
   rw [hseg] at hv'
   have HV' := Hi hv'
   clear hv' hb2 hrow hsl hsl' hS' hseg hb'
   generalize gd (spl (spl (zer N) 0 S) i S') (i + l.length) = z at *
   go_wp2_with fail
   go_roundw
   case rel =>
    refine ⟨i + 1, S.take i ++ S' ++ [r], by omega, by go_num, ?_, ?_, HB2.out, (hO.trans hO').set_ (.inl rfl) _⟩
    ·rw [List.length_append, List.length_append, List.length_take, HS'.out, HS.out, Nat.min_eq_left (by omega)]; simp; omega
    ·have hti : (S.take i).length = i := by rw [List.length_take, HS.out]; omega
     have h0 : val S = val (S.take i) + BB i * val (S.drop i) := by
      have := val_append (S.take i) (S.drop i)
      rwa [List.take_append_drop, hti] at this
     rw [val_snoc, val_append, List.length_append, hti, HS'.out, BB_add, H1.out]
     exact rows_step h0 HV.out HV'.out
   case measure => simp [intOf]; omega
  ·have he : i = k.length := by omega
   subst he
   go_wp2_with fail
   go_end0
   rw [List.take_length] at hv
   exact ⟨S, rfl, by omega, hv, by rw [spl_zer, show N - S.length = 0 from by omega] at hb; simpa [zer] using hb, hO⟩
theorem m7ad9f {P : Prop} (h : P := by
 rintro e w1 ⟨S, rfl, hS, hv, hb, hO⟩
 have HS := Hi hS
 have HV := Hi hv
 clear hS hv
 go_wp2_with fail
 refine (trim_own a _ w.heap.size (l.length + k.length) (l.length + k.length) S (val l * val k) (by omega) (Nat.le_refl _) hw.size hb (by rw [HS.out]; omega) (by rw [← HS.out, List.take_length]; exact HV.out) (bt hw (bo (b0 w) ((Only.mono (ba (b0 _) _)).trans hO) (Nat.le_refl _)))).mono ?_
 rintro e w2 h
 obtain ⟨A', c', l', rfl, hR⟩ := h
 go_wp2_with fail
 go_ret
 exact ⟨A', c', l', rfl, hR⟩) : P := h
theorem mdc197 {P : Prop} (h : P := by
 rw [e, h0]
 clear e
 rw [h0] at hne
 go_enter Tryz.func101, Tryz.ntmps101
 go_wp2_with fail
 go_ret
 exact ⟨none, 0, [], rfl, Nat.le_refl _, fun h => absurd rfl h, top_nil, rfl, hw⟩) : P := h
theorem product_le (a w : World) (A B : Option Addr) (n c m d : Nat) (l k : List Nat) (hn : l.length = n) (hm : k.length = m) (hmn : m ≤ n) (hn2 : n ≤ 2000000) (hm2 : m ≤ 48) (hl : WS w A l) (hk : WS w B k) (hw : Below a.heap.size a w) :
  Calls Tryz.prog 101 #[.slice A n c, .slice B m d] w (Res a (val l * val k)) := by
 subst hn hm
 have hne : decide (l.length < k.length) = false := by simp; omega
 by_cases h0 : k.length = 0
 ·have e : val l * val k = 0 := by rw [List.eq_nil_of_length_eq_zero h0]; rfl
  exact mdc197
 ·have hmk := fun W => run_mk ((l.length : Int) + (k.length : Int)) (l.length + k.length) (by simp) (by omega) W
  have hz : ((k.length : Int) == 0) = false := beq_eq_false_iff_ne.2 (by omega)
  have hle : decide ((k.length : Int) ≤ 48) = true := by simp; omega
  go_enter Tryz.func101, Tryz.ntmps101
  go_wp2_with fail
  refine (byRows_any w.heap.size (l.length + k.length) A B l.length c k.length d l k _ rfl rfl rfl (by omega) (by omega) (Blk.new w _ (zer_lt _)) (hl.below (ba (b0 _) _)) (hk.below (ba (b0 _) _)) (hl.off (Nat.le_refl _)) (hk.off (Nat.le_refl _))).mono ?_
  exact m7ad9f
theorem product_lt (a w : World) (A B : Option Addr) (n c m d : Nat) (l k : List Nat) (hn : l.length = n) (hm : k.length = m) (hmn : n < m) (hn2 : m ≤ 2000000) (hm2 : n ≤ 48) (hl : WS w A l) (hk : WS w B k) (hw : Below a.heap.size a w) :
  Calls Tryz.prog 101 #[.slice A n c, .slice B m d] w (Res a (val l * val k)) := by
 subst hn hm
 have hne : decide (l.length < k.length) = true := by simp; omega
 by_cases h0 : l.length = 0
 ·have e : val l * val k = 0 := by rw [List.eq_nil_of_length_eq_zero h0]; simp [val]
  exact mdc197
 ·have hmk := fun W => run_mk ((k.length : Int) + (l.length : Int)) (k.length + l.length) (by simp) (by omega) W
  have hz : ((l.length : Int) == 0) = false := beq_eq_false_iff_ne.2 (by omega)
  have hle : decide ((l.length : Int) ≤ 48) = true := by simp; omega
  go_enter Tryz.func101, Tryz.ntmps101
  go_wp2_with fail
  refine (byRows_any w.heap.size (k.length + l.length) B A k.length d l.length c k l _ rfl rfl rfl (by omega) (by omega) (Blk.new w _ (zer_lt _)) (hk.below (ba (b0 _) _)) (hl.below (ba (b0 _) _)) (hk.off (Nat.le_refl _)) (hl.off (Nat.le_refl _))).mono ?_
  rintro e w1 ⟨S, rfl, hS, hv, hb, hO⟩
  have HS := Hi hS
  have HV := Hi hv
  clear hS hv
  go_wp2_with fail
  refine (trim_own a _ w.heap.size (k.length + l.length) (k.length + l.length) S (val l * val k) (by omega) (Nat.le_refl _) hw.size hb (by rw [HS.out]; omega) (by rw [← HS.out, List.take_length, Nat.mul_comm (val l)]; exact HV.out) (bt hw (bo (b0 w) ((Only.mono (ba (b0 _) _)).trans hO) (Nat.le_refl _)))).mono ?_
  rintro e w2 h
  exact mae45d
theorem product_two (a w : World) (A B : Option Addr) (n c m d : Nat) (l k : List Nat) (hn : l.length = n) (hm : k.length = m) (hn2 : n ≤ 1000000) (hm2 : m ≤ 2) (hl : WS w A l) (hk : WS w B k) (hw : Below a.heap.size a w) :
  Calls Tryz.prog 101 #[.slice A n c, .slice B m d] w (Res a (val l * val k)) := by
 rcases Nat.lt_or_ge n m with h | h
 ·exact product_lt a w A B n c m d l k hn hm h (by omega) (by omega) hl hk hw
 ·exact product_le a w A B n c m d l k hn hm h (by omega) (by omega) hl hk hw
open Go.RowKit
variable {K a i j n p r t vS va vb x y : Nat} {L R S k l : List Nat} {W W' : World} {v : Value}
theorem gd_low (h : j < L.length) (_h2 : j < j + 1) : gd (L.take (j + 1) ++ S ++ R) j = gd L j := by
 simp only [gd, List.getD_eq_getElem?_getD]
 rw [List.append_assoc, List.getElem?_append_left (by simp; omega), List.getElem?_take, if_pos (by omega)]
theorem set_mid (h : j < L.length) : (L.take (j + 1) ++ S ++ R).set j x = L.take j ++ (x :: S) ++ R := by
 have h1 : L.take (j + 1) = L.take j ++ [gd L j] := take_snoc L h
 have h2 : (L.take j).length = j := by rw [List.length_take]; omega
 rw [h1, List.append_assoc, List.append_assoc, List.set_append_right _ _ (by omega), h2, Nat.sub_self]
 simp
theorem short_step {x r T Q R y v : Nat} (hT : T = x + 4294967296 * r) (hQ : T = y * Q + R) : x + 4294967296 * (v * y + r) = (Q + 4294967296 * v) * y + R := by
 rw [Nat.add_mul, Nat.mul_add, Nat.mul_assoc, Nat.mul_comm Q y]
 omega
theorem shorten_any (g n c : Nat) (L : List Nat) (y : Nat) (w : World) (hL : n ≤ L.length) (hn2 : n ≤ 4000000) (hy : y < 4294967296) (hy0 : 0 < y) (hg : Blk w g L) :
  Calls Tryz.prog 138 #[.slice (some ⟨g, 0, none⟩) n c, .int .u32 (y : Int)] w fun e w' =>
   ∃ S : List Nat, e = .returned (.int .u32 ((val (L.take n) % y : Nat) : Int)) ∧ S.length = n ∧ val S = val (L.take n) / y ∧ Blk w' g (S ++ L.drop n) ∧ Only g w w' := by
 have hy1 : ((y : Int) == 0) = false := beq_eq_false_iff_ne.2 (by omega)
 go_enter Tryz.func138, Tryz.ntmps138
 go_wp2_with fail
 go_loopw [5, 6] (fun rv iv wr => ∃ (k : Nat) (S : List Nat) (r : Nat), k ≤ n ∧ iv = .int .i64 ((k : Int) - 1) ∧ rv = .int .u64 (r : Int) ∧ r < y ∧ S.length = n - k ∧ val (seg L k (n - k)) = val S * y + r ∧ Blk wr g (L.take k ++ S ++ L.drop n) ∧ Only g w wr) (fun _ iv _ => (intOf iv + 1).toNat)
 case atStart => exact ⟨n, [], 0, Nat.le_refl _, rfl, rfl, hy0, by simp, by simp [seg_zero, val], by simpa using hg, only_refl _ _⟩
 case round =>
  obtain ⟨k, S, r, hk, rfl, rfl, hr, hS, hv, hb, hO⟩ := hrel
  rcases Nat.eq_zero_or_pos k with rfl | h0
  ·have e : seg L 0 (n - 0) = L.take n := by simp [seg]
   rw [e] at hv
   have hq : val S = val (L.take n) / y := by rw [hv, Nat.mul_comm, Nat.mul_add_div hy0, Nat.div_eq_of_lt hr, Nat.add_zero]
   have hq2 : r = val (L.take n) % y := by rw [hv, Nat.mul_comm, Nat.mul_add_mod, Nat.mod_eq_of_lt hr]
   have HQ := Hi hq
   have HR := Hi hq2
   have HS := Hi hS
   clear hv e hq hq2 hS
   go_wp2_with fail
   go_ret
   exact ⟨S, ret_int (by rw [← HR.out]), HS.out, HQ.out, by simpa using hb, hO⟩
  ·obtain ⟨j, rfl⟩ : ∃ j, k = j + 1 := ⟨k - 1, by omega⟩
   have hlen : (L.take (j + 1) ++ S ++ L.drop n).length = L.length := by simp; omega
   have hc1 := hb.cell (i := j) (by omega)
   have hf1 := hb.free j
   have hx := getD_lt hb.1 j
   have HB := Hi hb
   have HS := Hi hS
   have HV := Hi hv
   clear hb hS hv hlen
   generalize hxe : gd (L.take (j + 1) ++ S ++ L.drop n) j = x at *
   have hxl : gd L j = x := by rw [← hxe]; exact (gd_low (by omega) (by omega)).symm
   have HX := Hi hxl
   clear hxe hxl
   obtain ⟨T, hT⟩ : ∃ T, T = x + 4294967296 * r := ⟨_, rfl⟩
   have hor : bits BinOp.or IntKind.u64 ((r : Int) * 4294967296) (x : Int) = (T : Int) := by rw [hT]; exact or64' x r hx (by omega)
   obtain ⟨Q, hQ⟩ : ∃ Q, Q = T / y := ⟨_, rfl⟩
   obtain ⟨R, hR⟩ : ∃ R, R = T % y := ⟨_, rfl⟩
   have hTQ : T = y * Q + R := by rw [hQ, hR]; exact (Nat.div_add_mod T y).symm
   have hRy : R < y := by rw [hR]; exact Nat.mod_lt _ hy0
   have hQl : Q < 4294967296 := by rw [hQ]; exact Nat.div_lt_of_lt_mul (by
    have := Nat.mul_le_mul_left 4294967296 (show r + 1 ≤ y from hr)
    rw [hT, Nat.mul_comm y 4294967296]; omega)
   have hd1 : (T : Int) / (y : Int) = (Q : Int) := by rw [hQ]; simp
   have hd2 : (T : Int).tdiv (y : Int) = (Q : Int) := by rw [Int.tdiv_eq_ediv_of_nonneg (by omega)]; exact hd1
   have hm1 : (T : Int) % (y : Int) = (R : Int) := by rw [hR]; simp
   have hm2 : (T : Int).tmod (y : Int) = (R : Int) := by rw [Int.tmod_eq_emod_of_nonneg (by omega)]; exact hm1
   have HT := Hi hT
   have HTQ := Hi hTQ
   have hTl : T < 18446744073709551616 := by omega
   clear hT hTQ hQ hR
   go_wp2_with fail
   go_roundw
   case rel =>
    refine ⟨j, Q :: S, R, by omega, rfl, rfl, hRy, by simp [HS.out]; omega, ?_, ?_, hO.set_ (.inl rfl) _⟩
    ·have e1 : seg L j (n - j) = x :: seg L (j + 1) (n - (j + 1)) := by
      unfold seg
      rw [List.drop_eq_getElem_cons (by omega), show n - j = (n - (j + 1)) + 1 from by omega, List.take_succ_cons, ← gd_at (by omega), HX.out]
     rw [e1]
     simp only [val]
     rw [HV.out]
     exact short_step HT.out HTQ.out
    ·have h := HB.out.set_ (i := j) hQl
     rw [set_mid (by omega)] at h
     have em : ((Q : Int) % 4294967296) = (Q : Int) := by omega
     first | exact h | (rw [em]; exact h)
   case measure => simp [intOf]
open Go.RowKit
variable {K a i j n p r t vS va vb x y : Nat} {L R S k l : List Nat} {W W' : World} {v : Value}
def cmpN (x y : Nat) : Int := if x < y then -1 else if x = y then 0 else 1
theorem cmpInt_any (x y : Nat) (w : World) : Calls Tryz.prog 169 #[.int .i64 (x : Int), .int .i64 (y : Int)] w fun e w' => e = .returned (.int .i64 (cmpN x y)) ∧ w = w' := by
 by_cases h1 : x < y
 ·have e : cmpN x y = -1 := by unfold cmpN; rw [if_pos h1]
  rw [e]
  clear e
  go_enter Tryz.func169, Tryz.ntmps169
  go_wp2
  go_ret
  exact ⟨rfl, rfl⟩
 ·by_cases h2 : x = y
  ·have e : cmpN x y = 0 := by unfold cmpN; rw [if_neg h1, if_pos h2]
   rw [e]
   subst h2
   clear e h1
   go_enter Tryz.func169, Tryz.ntmps169
   go_wp2
   go_ret
   exact ⟨rfl, rfl⟩
  ·have e : cmpN x y = 1 := by unfold cmpN; rw [if_neg h1, if_neg h2]
   rw [e]
   have h3 : y < x := by omega
   clear e h1 h2
   go_enter Tryz.func169, Tryz.ntmps169
   go_wp2
   go_ret
   exact ⟨rfl, rfl⟩
theorem cmpW_any (x y : Nat) (w : World) : Calls Tryz.prog 170 #[.int .u32 (x : Int), .int .u32 (y : Int)] w fun e w' => e = .returned (.int .i64 (cmpN x y)) ∧ w = w' := by
 by_cases h1 : x < y
 ·have e : cmpN x y = -1 := by unfold cmpN; rw [if_pos h1]
  rw [e]
  clear e
  go_enter Tryz.func170, Tryz.ntmps170
  go_wp2
  go_ret
  exact ⟨rfl, rfl⟩
 ·by_cases h2 : x = y
  ·have e : cmpN x y = 0 := by unfold cmpN; rw [if_neg h1, if_pos h2]
   rw [e]
   subst h2
   clear e h1
   go_enter Tryz.func170, Tryz.ntmps170
   go_wp2
   go_ret
   exact ⟨rfl, rfl⟩
  ·have e : cmpN x y = 1 := by unfold cmpN; rw [if_neg h1, if_neg h2]
   rw [e]
   have h3 : y < x := by omega
   clear e h1 h2
   go_enter Tryz.func170, Tryz.ntmps170
   go_wp2
   go_ret
   exact ⟨rfl, rfl⟩
theorem cmpN_len (hl : ∀ x ∈ l, x < 4294967296) (hk : ∀ x ∈ k, x < 4294967296) (tl : Top l) (tk : Top k) (h : l.length ≠ k.length) : cmpN l.length k.length = cmpN (val l) (val k) := by
 unfold cmpN
 rcases Nat.lt_or_ge l.length k.length with h1 | h1
 ·have h2 := val_lt hl
  have h3 := val_lower tk (by omega)
  have h4 := BB_mono (show l.length ≤ k.length - 1 from by omega)
  rw [if_pos h1, if_pos (by omega)]
 ·have h2 := val_lt hk
  have h3 := val_lower tl (by omega)
  have h4 := BB_mono (show k.length ≤ l.length - 1 from by omega)
  rw [if_neg (by omega), if_neg h, if_neg (by omega), if_neg (by omega)]
theorem val_drop_at (l : List Nat) (h : j < l.length) : val (l.drop j) = gd l j + 4294967296 * val (l.drop (j + 1)) := by
 rw [List.drop_eq_getElem_cons h, ← gd_at h]; rfl
theorem val_split (l : List Nat) (j : Nat) (h : j ≤ l.length) : val l = val (l.take j) + BB j * val (l.drop j) := by
 have := val_append (l.take j) (l.drop j)
 rwa [List.take_append_drop, List.length_take, Nat.min_eq_left h] at this
theorem words_take (h : ∀ x ∈ l, x < 4294967296) (j : Nat) : ∀ x ∈ l.take j, x < 4294967296 := fun x hx => h x (List.mem_of_mem_take hx)
theorem cmpN_at (hl : ∀ x ∈ l, x < 4294967296) (hk : ∀ x ∈ k, x < 4294967296) (he : l.length = k.length) (hj : j < l.length) (hd : val (l.drop (j + 1)) = val (k.drop (j + 1))) (hne : gd l j ≠ gd k j) : cmpN (gd l j) (gd k j) = cmpN (val l) (val k) := by
 have h1 := val_split l (j + 1) (by omega)
 have h2 := val_split k (j + 1) (by omega)
 rw [val_take l hj, hd] at h1
 rw [val_take k (by omega)] at h2
 have h3 := val_lt (words_take hl j)
 have h4 := val_lt (words_take hk j)
 rw [List.length_take, Nat.min_eq_left (by omega)] at h3 h4
 generalize BB (j + 1) * val (k.drop (j + 1)) = R at *
 generalize gd l j = x at *
 generalize gd k j = y at *
 unfold cmpN
 rcases Nat.lt_or_ge x y with h5 | h5
 ·have h6 := Nat.mul_le_mul_left (BB j) (show x + 1 ≤ y from h5)
  rw [Nat.mul_add, Nat.mul_one] at h6
  rw [if_pos h5, if_pos (by omega)]
 ·have h6 := Nat.mul_le_mul_left (BB j) (show y + 1 ≤ x from by omega)
  rw [Nat.mul_add, Nat.mul_one] at h6
  rw [if_neg (by omega), if_neg hne, if_neg (by omega), if_neg (by omega)]
theorem quiet_mine {P : Program} {f : FuncId} {args : Array Value} {w : World} (h : Calls P f args (w.drewN (a + n)) fun e w' => e = .returned v ∧ w.drewN (a + n) = w') :
  Calls P f args (w.drewN (a + n)) fun e w'' => e = .returned v ∧ ∃ m, w'' = w.drewN (a + m) := h.mono fun _ _ h => ⟨h.1, n, h.2.symm⟩
theorem m9e581 {P : Prop} (h : P := by
 go_ret
 refine ⟨ret_int ?_, hb⟩
 have := hd.out
 rw [List.drop_zero, List.drop_zero] at this
 unfold cmpN
 rw [this, if_neg (by omega), if_pos rfl]) : P := h
theorem compare_any (A B : Option Addr) (n c m d : Nat) (l k : List Nat) (w : World) (hn : l.length = n) (hm : k.length = m) (hn2 : n ≤ 4000000) (hm2 : m ≤ 4000000) (tl : Top l) (tk : Top k) (hl : WS w A l) (hk : WS w B k) :
  Calls Tryz.prog 135 #[.slice A n c, .slice B m d] w fun e w' => e = .returned (.int .i64 (cmpN (val l) (val k))) ∧ Below w.heap.size w w' := by
 subst hn hm
 by_cases hne : l.length = k.length
 ·have HE := Hi hne
  have hneb : ((l.length : Int) != (k.length : Int)) = false := by simp; omega
  clear hne
  go_enter Tryz.func135, Tryz.ntmps135
  go_wp2_with fail
  go_loopw [5] (fun iv wr => ∃ (j : Nat), j ≤ l.length ∧ iv = .int .i64 ((j : Int) - 1) ∧ Hid (val (l.drop j) = val (k.drop j)) ∧ Below w.heap.size w wr) (fun iv _ => (intOf iv + 1).toNat)
  case atStart => exact ⟨l.length, Nat.le_refl _, rfl, by show _ = _; rw [List.drop_length, HE.out, List.drop_length], b0 _⟩
  case round =>
   obtain ⟨j, hj, rfl, hd, hb⟩ := hrel
   rcases Nat.eq_zero_or_pos j with rfl | h0
   ·go_wp2_with fail
    exact m9e581
   ·obtain ⟨i, rfl⟩ : ∃ i, j = i + 1 := ⟨j - 1, by omega⟩
    obtain ⟨b1, o1, rfl, hlt1, hc1⟩ := (hl.below hb).at_ (by omega)
    obtain ⟨b2, o2, rfl, hlt2, hc2⟩ := (hk.below hb).at_ (by have := HE.out; omega)
    have g1 := hc1 i (by omega)
    have g2 := hc2 i (by have := HE.out; omega)
    have hil : (i : Int) < (k.length : Int) := by have := HE.out; omega
    have hil2 : (i : Int) < (l.length : Int) := by omega
    have hi0 : (0 : Int) ≤ (i : Int) := by omega
    have hit : ((i : Int)).toNat = i := by simp
    clear hc1 hc2
    by_cases hx : gd l i = gd k i
    ·have HX := Hi hx
     rw [hx] at g1
     clear hx
     go_wp2_with fail
     go_quiet (fail)
     go_wp2_with fail
     go_roundw
     case rel =>
      refine ⟨i, by omega, rfl, ?_, bd hb _⟩
      show _ = _
      rw [val_drop_at l (by omega), val_drop_at k (by have := HE.out; omega), HX.out, hd.out]
     case measure => simp [intOf]
    ·have HX := Hi hx
     have hxb : (((gd l i : Nat) : Int) != ((gd k i : Nat) : Int)) = true := by simp; omega
     clear hx
     go_wp2_with fail
     go_quiet (fail)
     go_wp2_with fail
     go_quiet ((go_at_call 170; exact quiet_mine (cmpW_any _ _ _)))
     go_wp2_with fail
     go_ret
     exact ⟨ret_int (cmpN_at hl.1 hk.1 HE.out (by omega) hd.out HX.out), bd (bd hb _) _⟩
 ·have hc := cmpN_len hl.1 hk.1 tl tk hne
  have hneb : ((l.length : Int) != (k.length : Int)) = true := by simp; omega
  have HC := Hi hc
  clear hc hne
  go_enter Tryz.func135, Tryz.ntmps135
  go_wp2_with fail
  refine (cmpInt_any l.length k.length _).mono ?_
  rintro e w1 ⟨rfl, rfl⟩
  go_wp2_with fail
  go_ret
  exact ⟨ret_int HC.out, b0 _⟩
open Go.RowKit
variable {K a i j n p r t vS va vb x y : Nat} {L R S k l : List Nat} {W W' : World} {v : Value}
def DRes (a : World) (N M : Nat) (e : Ending) (w' : World) : Prop :=
 ∃ A c l B d k, e = .returned (.tuple #[.slice A l.length c, .slice B k.length d]) ∧ l.length ≤ c ∧ OwnS a w' A l ∧ Top l ∧ val l = N ∧ k.length ≤ d ∧ OwnS a w' B k ∧ Top k ∧ val k = M ∧ Below a.heap.size a w'
theorem val_two (h : l.length ≤ 2) : val l = gd l 0 + 4294967296 * gd l 1 := by
 match l, h with
 | [], _ => rfl
 | [x], _ => simp [val, gd]
 | [x, y], _ => simp [val, gd]
theorem divide_small (a w : World) (A B : Option Addr) (n c m d : Nat) (l k : List Nat) (hn : l.length = n) (hm : k.length = m) (hn2 : n ≤ 2) (hm2 : m ≤ 2) (hl : WS w A l) (hk : WS w B k) (h0 : val k ≠ 0) (hw : Below a.heap.size a w) :
  Calls Tryz.prog 86 #[.slice A n c, .slice B m d] w (DRes a (val l / val k) (val l % val k)) := by
 subst hn hm
 have e1 := val_two hn2
 have e2 := val_two hm2
 have b1 := hl.lt 0
 have b2 := hl.lt 1
 have b3 := hk.lt 0
 have b4 := hk.lt 1
 have c1 : decide ((l.length : Int) ≤ 2) = true := by simp; omega
 have c2 : decide ((k.length : Int) ≤ 2) = true := by simp; omega
 obtain ⟨x, hx⟩ : ∃ x, x = val l := ⟨_, rfl⟩
 obtain ⟨y, hy⟩ : ∃ y, y = val k := ⟨_, rfl⟩
 have hxl : x < 18446744073709551616 := by omega
 have hyl : y < 18446744073709551616 := by omega
 have hy0 : 0 < y := by omega
 have hyb : ((y : Int) == 0) = false := beq_eq_false_iff_ne.2 (by omega)
 have s1 := single_any A l.length c l w rfl (by omega) hl
 have s2 := single_any B k.length d k w rfl (by omega) hk
 rw [← e1, ← hx] at s1
 rw [← e2, ← hy] at s2
 rw [← hx, ← hy]
 obtain ⟨q, hq⟩ : ∃ q, q = x / y := ⟨_, rfl⟩
 obtain ⟨r, hr⟩ : ∃ r, r = x % y := ⟨_, rfl⟩
 have hd1 : (x : Int) / (y : Int) = (q : Int) := by rw [hq]; simp
 have hd2 : (x : Int).tdiv (y : Int) = (q : Int) := by rw [Int.tdiv_eq_ediv_of_nonneg (by omega)]; exact hd1
 have hm1 : (x : Int) % (y : Int) = (r : Int) := by rw [hr]; simp
 have hmm2 : (x : Int).tmod (y : Int) = (r : Int) := by rw [Int.tmod_eq_emod_of_nonneg (by omega)]; exact hm1
 have hql : q < 18446744073709551616 := by rw [hq]; exact Nat.lt_of_le_of_lt (Nat.div_le_self _ _) hxl
 have hrl : r < 18446744073709551616 := by rw [hr]; exact Nat.lt_of_le_of_lt (Nat.mod_le _ _) hxl
 rw [← hq, ← hr]
 have S1 := Hi s1
 have S2 := Hi s2
 clear s1 s2 e1 e2 h0 hx hy hq hr
 have hwq : IntKind.u64.wrap (q : Int) = (q : Int) := IntWalk.u64_in _ ⟨by omega, by omega⟩
 go_enter Tryz.func86, Tryz.ntmps86
 go_wp2_with fail
 refine S1.out.mono ?_
 rintro e w1 ⟨rfl, rfl⟩
 go_wp2_with fail
 refine S2.out.mono ?_
 rintro e w1 ⟨rfl, rfl⟩
 go_wp2_with fail
 go_region_with (first
  | (go_at_call 134; ((with_reducible refine (fromSingle_any w _ q hql ?_).mono ?_); (first | exact b0 _ | exact bd (b0 _) _); rintro e w1 ⟨A1, c1, l1, rfl, hlc1, ho1, ht1, hv1, hb1⟩; have HV1 := Hi hv1; clear hv1))
  | (go_at_call 134; ((with_reducible refine (fromSingle_any w1 _ r hrl ?_).mono ?_); (first | exact b0 _ | exact bd (b0 _) _); rintro e w2 ⟨A2, c2, l2, rfl, hlc2, ho2, ht2, hv2, hb12⟩; have hb2 := bt hb1 hb12; have HV2 := Hi hv2; clear hv2)))
 all_goals
  clear hwq
  go_wp2_with fail
  go_ret2
  exact ⟨A1, c1, l1, A2, c2, l2, rfl, hlc1, (ho1.below hb12).mono hw.size, ht1, HV1.out, hlc2, ho2.mono (Nat.le_trans hw.size hb1.size), ht2, HV2.out, bt hw hb2⟩
end Go.Proofs.YtgljdfblgpdaaaaGreatDoor
