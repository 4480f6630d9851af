import Derived.Deep.RegionLaw
import Derived.Deep.DeepCutAuto
import Derived.Test.YtgljdfblgpdaaaaGreatDoorPbNumMacB
set_option linter.unusedSimpArgs false
set_option linter.unusedVariables false
set_option maxRecDepth 100000
set_option maxHeartbeats 4000000
namespace Go.Proofs.YtgljdfblgpdaaaaGreatDoor
open Go.RowKit
variable {L S : List Nat} {W W' a b c : World} {g h i m p s x : Nat} {v : Int}
def On2 (g h : Nat) (w w' : World) : Prop := w'.os = w.os ∧ w'.tape = w.tape ∧ w'.output = w.output ∧ w.heap.size ≤ w'.heap.size ∧ ∀ i, i < w.heap.size → i ≠ g → i ≠ h → w'.heap[i]? = w.heap[i]?
theorem on2_refl (g h : Nat) (w : World) : On2 g h w w := ⟨rfl, rfl, rfl, Nat.le_refl _, fun _ _ _ _ => rfl⟩
theorem On2.trans (x : On2 g h a b) (y : On2 g h b c) : On2 g h a c :=
 ⟨y.1.trans x.1, y.2.1.trans x.2.1, y.2.2.1.trans x.2.2.1, Nat.le_trans x.2.2.2.1 y.2.2.2.1, fun i hi h1 h2 => (y.2.2.2.2 i (Nat.lt_of_lt_of_le hi x.2.2.2.1) h1 h2).trans (x.2.2.2.2 i hi h1 h2)⟩
theorem On2.below (k : Below a.heap.size a b) : On2 g h a b := ⟨k.os, k.tape, k.output, k.size, fun i hi _ _ => k.block i hi⟩
theorem On2.only (k : Only g a b) : On2 g h a b := ⟨k.os, k.tape, k.output, k.size, fun i hi h1 _ => k.block i hi (fun e => h1 (by injection e))⟩
theorem On2.only' (k : Only h a b) : On2 g h a b := ⟨k.os, k.tape, k.output, k.size, fun i hi _ h2 => k.block i hi (fun e => h2 (by injection e))⟩
theorem On2.fresh {g h f : Nat} (x : On2 g h a b) (k : Only f b c) (hf : a.heap.size ≤ f) : On2 g h a c :=
 ⟨k.os.trans x.1, k.tape.trans x.2.1, k.output.trans x.2.2.1, Nat.le_trans x.2.2.2.1 k.size, fun i hi h1 h2 => (k.block i (Nat.lt_of_lt_of_le hi x.2.2.2.1) (fun e => by injection e with e; omega)).trans (x.2.2.2.2 i hi h1 h2)⟩
theorem On2.bt (x : Below a.heap.size a b) (k : On2 g h b c) (hg : a.heap.size ≤ g) (hh : a.heap.size ≤ h) : Below a.heap.size a c :=
 x.trans ⟨k.1, k.2.1, k.2.2.1, k.2.2.2.1, fun i hi => k.2.2.2.2 i (Nat.lt_of_lt_of_le hi x.size) (by omega) (by omega)⟩
theorem Cells.on2 {t : TypeId} {vs : Array Value} (k : Cells W p t vs) (hb : On2 g h W W') (h1 : p ≠ g) (h2 : p ≠ h) : Cells W' p t vs := (hb.2.2.2.2 p k.lt h1 h2).trans k
theorem Blk.on2 (k : Blk W p L) (hb : On2 g h W W') (h1 : p ≠ g) (h2 : p ≠ h) : Blk W' p L := ⟨k.1, (hb.2.2.2.2 p k.lt h1 h2).trans k.2⟩
abbrev car (x y : Int) : Value := .agg #[.int .i64 x, .int .i64 y]
def StepC (I : Nat → Int → Int → World → Prop) (g h n : Nat) (W : World) (e : Ending) (W' : World) : Prop := ∃ x y, e = .returned (car x y) ∧ I n x y W' ∧ On2 g h W W'
theorem foldC (K : Nat) (c1 c2 c3 c4 c5 : Value) (ga gb : Nat) (B : Option Addr) (n c m d : Nat) (la lb : List Nat) (I : Nat → Int → Int → World → Prop) (w0 : World) (hnm : n ≤ 4000000) (hmm : m ≤ 4000000) (hnc : n ≤ c) (hga : ga < w0.heap.size) (hgb : gb < w0.heap.size)
  (hK : ∀ args W, (callFunc K args).run Tryz.prog W = .ok (.enter K args) W)
  (hA : ∀ i x y W, i < n → I i x y W → W.cell? ⟨ga, i, none⟩ = some (.int .u32 (gd la i : Int)))
  (hB : ∀ i x y W, i < n → I i x y W → ∃ kb, WS W B kb ∧ kb.length = m ∧ gd kb i = gd lb i)
  (hI : ∀ i x y W W' fb, I i x y W → w0.heap.size ≤ fb → Only fb W W' → I i x y W')
  (hstep : ∀ (i : Nat) x y W, i < n → I i x y W → Calls Tryz.prog K #[car x y, .int .i64 (i : Int), .int .u32 (gd la i : Int), .int .u32 (gd lb i : Int), c1, c2, c3, c4, c5] W (StepC I ga gb (i + 1) W))
  (h0 : I 0 0 0 w0) :
  Calls Tryz.prog 195 #[.slice (some ⟨ga, 0, none⟩) n c, .slice B m d, car 0 0, .func (.func K) #[] #[c1, c2, c3, c4, c5]] w0 fun e W' => ∃ x y, e = .returned (car x y) ∧ I n x y W' := by
 have HA := Hi hA
 have HB := Hi hB
 have HI := Hi hI
 have HS := Hi hstep
 clear hA hB hI hstep
 go_enter Tryz.func195, Tryz.ntmps195
 go_wp2_with fail
 obtain ⟨W1, hW1, hI1, hF1, hR1, hs1⟩ : ∃ W, W = (w0.alloc (.cells #[.int .i64 0, .int .i64 0] 164)).alloc (.cells #[.int .i64 0, .int .i64 0] 164) ∧ I 0 0 0 W ∧ Cells W w0.heap.size 164 #[.int .i64 0, .int .i64 0] ∧ Cells W (w0.heap.size + 1) 164 #[.int .i64 0, .int .i64 0] ∧ w0.heap.size + 1 < W.heap.size := by
  refine ⟨_, rfl, HI.out _ _ _ _ _ w0.heap.size h0 (Nat.le_refl _) (Only.mono (ba (ba (b0 _) _) _)), (Cells.new w0 _ _).below (ba (b0 _) _), ?_, by simp⟩
  have h := Cells.new (w0.alloc (.cells #[.int .i64 0, .int .i64 0] 164)) 164 #[.int .i64 0, .int .i64 0]
  rw [World.size_alloc] at h; exact h
 rw [← hW1]
 clear hW1 h0
 have HI1 := Hi hI1
 clear hI1
 go_loopw [13] (fun iv wr => ∃ (i : Nat) (x y : Int), i ≤ n ∧ iv = .int .i64 i ∧ Hid (I i x y wr) ∧ Cells wr w0.heap.size 164 #[.int .i64 x, .int .i64 y] ∧ Cells wr (w0.heap.size + 1) 164 #[.int .i64 0, .int .i64 0]) (fun iv _ => n - (intOf iv).toNat)
 case atStart => exact ⟨0, 0, 0, Nat.zero_le _, rfl, HI1, hF1, hR1⟩
 case round =>
  obtain ⟨i, x, y, hi, rfl, hIi, hF, hR⟩ := hrel
  have t0 := hF.at_ 0
  have t1 := hF.at_ 1
  simp at t0 t1
  have f0 := hF.free 0
  have f1 := hF.free 1
  have s0 := hR.at_ 0
  have s1 := hR.at_ 1
  simp at s0 s1
  have g0 := hR.free 0
  have g1 := hR.free 1
  by_cases hlt : i < n
  ·have hc1 := HA.out _ _ _ _ hlt hIi.out
   obtain ⟨kb, hkb, hkl, hkg⟩ := HB.out _ _ _ _ hlt hIi.out
   have hwa := fun W h => wordAt_any B m d (i : Int) kb W hkl hmm (by omega) (by omega) h
   rw [Int.toNat_natCast, hkg] at hwa
   have HWA := Hi hwa
   clear hwa hkl hkg
   go_wp2_with fail
   go_region_law (first
    | (go_simp; go_at_call 168; refine (HWA.out _ (hkb.below (by repeat (first | exact b0 _ | apply bw | apply bd)))).mono ?_; rintro e w5 ⟨rfl, rfl⟩)
    | (go_simp; refine (HS.out i x y (wr.drewN 1) hlt (HI.out _ _ _ _ _ w0.heap.size hIi.out (Nat.le_refl _) ((only_refl _ _).draw 1))).mono ?_; rintro e w6 ⟨x', y', rfl, hI6, hO6⟩; have hF6 := (show Cells (wr.drewN 1) w0.heap.size 164 _ from hF).on2 hO6 (by omega) (by omega); have hR6 := (show Cells (wr.drewN 1) (w0.heap.size + 1) 164 _ from hR).on2 hO6 (by omega) (by omega); have k0 := hF6.at_ 0; have k1 := hF6.at_ 1; simp at k0 k1; have j0 := hF6.free 0; have j1 := hF6.free 1))
   all_goals
    have hF7 := (hF6.set_ 0 (.int .i64 x')).set_ 1 (.int .i64 y')
    simp only [Array.setIfInBounds, List.size_toArray, List.length_cons, List.length_nil] at hF7
    have hR7 := (hR6.far (show w0.heap.size + 1 ≠ w0.heap.size by omega) 0 (.int .i64 x')).far (show w0.heap.size + 1 ≠ w0.heap.size by omega) 1 (.int .i64 y')
    have hI7 := HI.out _ _ _ _ ((w6.setCell ⟨w0.heap.size, 0, none⟩ (.int .i64 x')).setCell ⟨w0.heap.size, 1, none⟩ (.int .i64 y')) w0.heap.size hI6 (Nat.le_refl _) (((only_refl w0.heap.size w6).set_ (.inl rfl) _).set_ (.inl rfl) _)
    have HI7 := Hi hI7
    clear hI6 hI7
    go_wp2_with fail
    go_roundw
    case rel => exact ⟨i + 1, x', y', by omega, by go_num, HI7, hF7, hR7⟩
    case measure => simp [intOf]; omega
  ·have he : i = n := by omega
   subst he
   have hR7 := (hR.set_ 0 (.int .i64 x)).set_ 1 (.int .i64 y)
   simp only [Array.setIfInBounds, List.size_toArray, List.length_cons, List.length_nil] at hR7
   have y0' := hR7.at_ 0
   have y1 := hR7.at_ 1
   simp at y0' y1
   have HY := Hi (And.intro y0' y1)
   clear y0' y1 hR7
   go_wp2_with fail
   obtain ⟨y0', y1⟩ := HY.out
   refine bodyPost_ret (v := car x y) (by simp [results, Tryz.results195, go_sem, y0', y1]) rfl ?_
   exact ⟨x, y, rfl, HI.out _ _ _ _ _ (w0.heap.size + 1) hIi.out (by omega) (((only_refl (w0.heap.size + 1) wr).set_ (p := ⟨w0.heap.size + 1, 0, none⟩) (.inl rfl) _).set_ (p := ⟨w0.heap.size + 1, 1, none⟩) (.inl rfl) _)⟩
open Go.RowKit
variable {L S : List Nat} {W W' a b c : World} {g h i m p s x : Nat} {v : Int}
theorem fold64c (K : Nat) (c1 c2 c3 : Value) (A B : Option Addr) (n c m d : Nat) (l k : List Nat) (I : Nat → Value → World → Prop) (hn : l.length = n) (hk : k.length = m) (hnm : n ≤ 4000000) (hmm : m ≤ 4000000)
  (hK : ∀ args W, (callFunc K args).run Tryz.prog W = .ok (.enter K args) W)
  (hA : ∀ i s W, I i s W → WS W A l) (hB : ∀ i s W, I i s W → WS W B k)
  (hstep : ∀ (i : Nat) s W, i < n → I i s W → Calls Tryz.prog K #[s, .int .i64 (i : Int), .int .u32 (gd l i : Int), .int .u32 (gd k i : Int), c1, c2, c3] W (FoldP I (i + 1)))
  (s0 : Value) (w : World) (h0 : I 0 s0 w) :
  Calls Tryz.prog 141 #[.slice A n c, .slice B m d, s0, .func (.func K) #[] #[c1, c2, c3]] w (FoldP I n) := by
 subst hn hk
 have HA := Hi hA
 have HB := Hi hB
 have HS := Hi hstep
 clear hA hB hstep
 go_enter Tryz.func141, Tryz.ntmps141
 exact m9436e
def UBox (W : World) (p : Nat) (v : Nat) : Prop := W.heap[p]? = some (.cells #[.int .u64 (v : Int)] 96 (0, 0))
theorem UBox.cell {p v : Nat} (h : UBox W p v) : W.cell? ⟨p, 0, none⟩ = some (.int .u64 (v : Int)) := by
 rw [cell_of_row W p 0 _ _ (0, 0) h]; rfl
theorem UBox.lt {p v : Nat} (h : UBox W p v) : p < W.heap.size := by
 rcases Nat.lt_or_ge p W.heap.size with hlt | hge
 ·exact hlt
 ·unfold UBox at h; rw [Array.getElem?_eq_none hge] at h; cases h
theorem UBox.only {p g v : Nat} (h : UBox W p v) (hb : Only g W W') (hne : p ≠ g) : UBox W' p v := (hb.block p h.lt (fun e => hne (by injection e))).trans h
theorem UBox.new (W : World) (v : Nat) : UBox (W.alloc (.cells #[.int .u64 (v : Int)] 96)) W.heap.size v := heap_alloc_new W _
theorem UBox.below {p v : Nat} (h : UBox W p v) (hb : Below W.heap.size W W') : UBox W' p v := (hb.block p h.lt).trans h
theorem mix_step {vS K r t x y p q vl vk : Nat} (hv : vS + K * r = p * vk + q * vl) (ht : t = p * y + q * x + r) :
  vS + K * (t % 4294967296) + K * 4294967296 * (t / 4294967296) = p * (vk + K * y) + q * (vl + K * x) := by
 have h1 : K * (t % 4294967296) + K * 4294967296 * (t / 4294967296) = K * t := by
  rw [Nat.mul_assoc, ← Nat.mul_add, Nat.mod_add_div]
 rw [Nat.add_assoc, h1, ht]
 have h2 : K * (p * y + q * x + r) = p * (K * y) + q * (K * x) + K * r := by rw [Nat.mul_add, Nat.mul_add, Nat.mul_left_comm, Nat.mul_left_comm K q]
 rw [h2, Nat.mul_add, Nat.mul_add]
 omega
def MixI (w0 : World) (g b1 b2 b3 n p q : Nat) (l k : List Nat) (A B : Option Addr) (i : Nat) (s : Value) (W : World) : Prop :=
 ∃ (S : List Nat) (r : Nat), s = .int .u64 (r : Int) ∧ r < 4294967296 ∧ S.length = i ∧ (∀ x ∈ S, x < 4294967296) ∧ val S + BB i * r = p * val (k.take i) + q * val (l.take i) ∧ Blk W g (spl (zer n) 0 S) ∧ UBox W b1 p ∧ UBox W b2 q ∧ Box W b3 (.slice (some ⟨g, 0, none⟩) n n) ∧ WS W A l ∧ WS W B k ∧ Off A l g ∧ Off B k g ∧ (b1 ≠ g ∧ b2 ≠ g ∧ b3 ≠ g) ∧ Only g w0 W
theorem mix1_any (w0 : World) (g b1 b2 b3 n p q : Nat) (l k : List Nat) (A B : Option Addr) (i : Nat) (s : Value) (W : World) (hi : i < n) (hn : n ≤ 4000000) (hp : p < 2147483648) (hq : q < 2147483648) (h : MixI w0 g b1 b2 b3 n p q l k A B i s W) :
  Calls Tryz.prog 200 #[s, .int .i64 (i : Int), .int .u32 (gd l i : Int), .int .u32 (gd k i : Int), .pointer (some ⟨b1, 0, none⟩), .pointer (some ⟨b2, 0, none⟩), .pointer (some ⟨b3, 0, none⟩)] W (FoldP (MixI w0 g b1 b2 b3 n p q l k A B) (i + 1)) := by
 obtain ⟨S, r, rfl, hr, hS, hSw, hv, hb, hu1, hu2, hbox, hA, hB, hoA, hoB, ⟨hn1, hn2, hn3⟩, hO⟩ := h
 have hc1 := hbox.cell
 have hc3 := hu1.cell
 have hc4 := hu2.cell
 have hx := hA.lt i
 have hy := hB.lt i
 have hlen : (spl (zer n) 0 S).length = n := by rw [spl_length (by rw [zer_length]; omega), zer_length]
 have hc2 := hb.cell (i := i) (by omega)
 have hf2 := hb.free i
 have H1 := Hi (val_take_any l i)
 have H2 := Hi (val_take_any k i)
 have HS := Hi hS
 have HV := Hi hv
 have HL := Hi hlen
 have HB := Hi hb
 clear hv hS hlen hb
 generalize gd (spl (zer n) 0 S) i = z at *
 generalize hxe : gd l i = x at *
 generalize hye : gd k i = y at *
 clear hxe hye
 have hm1 := Nat.mul_le_mul (Nat.le_of_lt_succ hp) (Nat.le_of_lt_succ hy)
 have hm2 := Nat.mul_le_mul (Nat.le_of_lt_succ hq) (Nat.le_of_lt_succ hx)
 obtain ⟨P, hP⟩ : ∃ z, z = p * y := ⟨_, rfl⟩
 obtain ⟨Q, hQ⟩ : ∃ z, z = q * x := ⟨_, rfl⟩
 have hPi : (p : Int) * (y : Int) = (P : Int) := by rw [hP]; simp
 have hQi : (q : Int) * (x : Int) = (Q : Int) := by rw [hQ]; simp
 have hPl : P ≤ 9223372030412324865 := by omega
 have hQl : Q ≤ 9223372030412324865 := by omega
 have HP := Hi hP
 have HQ := Hi hQ
 clear hP hQ hm1 hm2
 go_enter Tryz.func200, Tryz.ntmps200
 go_wp2_with fail
 go_ret
 have et : (P + Q + r) % 4294967296 < 4294967296 := Nat.mod_lt _ (by decide)
 refine ⟨.int .u64 ((P + Q + r) / 4294967296 : Nat), ret_int (by omega), S ++ [(P + Q + r) % 4294967296], (P + Q + r) / 4294967296, rfl, by omega, by simp [HS.out], words_snoc hSw et, ?_, ?_, ?_, ?_, ?_, ?_, ?_, hoA, hoB, ⟨hn1, hn2, hn3⟩, hO.set_ (.inl rfl) _⟩
 ·rw [val_snoc, HS.out, H1.out, H2.out, BB_succ]
  exact mix_step HV.out (by rw [HP.out, HQ.out])
 ·have h := HB.out.set_ (i := i) et
  have h2 := spl_set (L := zer n) (o := 0) (S := S) ((P + Q + r) % 4294967296) (by rw [zer_length, HS.out]; omega)
  rw [Nat.zero_add, HS.out] at h2
  rw [h2] at h
  exact h
 ·exact hu1.only ((only_refl g W).set_ (.inl rfl) _) hn1
 ·exact hu2.only ((only_refl g W).set_ (.inl rfl) _) hn2
 ·exact hbox.only ((only_refl g W).set_ (.inl rfl) _) hn3
 ·exact hA.only ((only_refl g W).set_ (.inl rfl) _) hoA
 ·exact hB.only ((only_refl g W).set_ (.inl rfl) _) hoB
theorem enters_mix : ∀ args W, (callFunc 200 args).run Tryz.prog W = .ok (.enter 200 args) W
  := enters_of Tryz.func200 (by kernel_rfl) rfl
theorem mix_any (a w : World) (A B : Option Addr) (c d : Nat) (k l : List Nat) (p q : Nat) (hp : p < 2147483648) (hq : q < 2147483648) (hkl : k.length ≤ l.length) (hn2 : l.length ≤ 2000000) (hk : WS w B k) (hl : WS w A l) (hw : Below a.heap.size a w) :
  Calls Tryz.prog 197 #[.slice B k.length d, .slice A l.length c, .int .u64 (p : Int), .int .u64 (q : Int)] w (Res a (val k * p + val l * q)) := by
 by_cases h0 : l.length = 0
 ·have hz : ((l.length : Int) == 0) = true := by simp [h0]
  have e0 : val k * p + val l * q = 0 := by
   rw [List.eq_nil_of_length_eq_zero h0, List.eq_nil_of_length_eq_zero (show k.length = 0 by omega)]; simp [val]
  rw [e0]
  clear h0 e0
  go_enter Tryz.func197, Tryz.ntmps197
  go_wp2_with fail
  go_ret
  exact ⟨none, 0, [], rfl, Nat.le_refl _, fun h => absurd rfl h, top_nil, rfl, ba (ba hw _) _⟩
 ·have hz : ((l.length : Int) == 0) = false := beq_eq_false_iff_ne.2 (by omega)
  have hmk := fun W => run_mk ((l.length : Int) + 1) (l.length + 1) (by simp) (by omega) W
  go_enter Tryz.func197, Tryz.ntmps197
  go_wp2_with fail
  obtain ⟨W4, hW4, hw4, u1, u2, hg4, hb4⟩ : ∃ W, W = ((((w.alloc (.cells #[.int .u64 (p : Int)] 96)).alloc (.cells #[.int .u64 (q : Int)] 96)).alloc (.cells (words (zer (l.length + 1))) 83)).alloc (.cells #[.slice (some ⟨w.heap.size + 1 + 1, 0, none⟩) (l.length + 1) (l.length + 1)] 22)) ∧
    Below w.heap.size w W ∧ UBox W w.heap.size p ∧ UBox W (w.heap.size + 1) q ∧ Blk W (w.heap.size + 1 + 1) (zer (l.length + 1)) ∧ Box W (w.heap.size + 1 + 1 + 1) (.slice (some ⟨w.heap.size + 1 + 1, 0, none⟩) (l.length + 1) (l.length + 1)) := by
   refine ⟨_, rfl, ba (ba (ba (ba (b0 _) _) _) _) _, ((UBox.new w p).below (ba (b0 _) _)).below (ba (ba (b0 _) _) _), ?_, ?_, ?_⟩
   ·have h := (UBox.new (w.alloc (.cells #[.int .u64 (p : Int)] 96)) q).below (ba (ba (b0 _) (.cells (words (zer (l.length + 1))) 83)) (.cells #[.slice (some ⟨w.heap.size + 1 + 1, 0, none⟩) (l.length + 1) (l.length + 1)] 22))
    rw [World.size_alloc] at h; exact h
   ·have h := (Blk.new ((w.alloc (.cells #[.int .u64 (p : Int)] 96)).alloc (.cells #[.int .u64 (q : Int)] 96)) (zer (l.length + 1)) (zer_lt _)).alloc (.cells #[.slice (some ⟨w.heap.size + 1 + 1, 0, none⟩) (l.length + 1) (l.length + 1)] 22)
    rw [World.size_alloc, World.size_alloc] at h; exact h
   ·have h := Box.new (((w.alloc (.cells #[.int .u64 (p : Int)] 96)).alloc (.cells #[.int .u64 (q : Int)] 96)).alloc (.cells (words (zer (l.length + 1))) 83)) (.slice (some ⟨w.heap.size + 1 + 1, 0, none⟩) (l.length + 1) (l.length + 1))
    rw [World.size_alloc, World.size_alloc, World.size_alloc] at h; exact h
  rw [← hW4]
  clear hW4 hmk
  obtain ⟨g, hg⟩ : ∃ g, g = w.heap.size + 1 + 1 := ⟨_, rfl⟩
  rw [← hg] at hg4 hb4 ⊢
  refine (fold64c 200 (.pointer (some ⟨w.heap.size, 0, none⟩)) (.pointer (some ⟨w.heap.size + 1, 0, none⟩)) (.pointer (some ⟨g + 1, 0, none⟩)) A B l.length c k.length d l k (MixI W4 g w.heap.size (w.heap.size + 1) (g + 1) (l.length + 1) p q l k A B) rfl rfl (by omega) (by omega) enters_mix
   (fun i s W h => by obtain ⟨S, r, _, _, _, _, _, _, _, _, _, h, _⟩ := h; exact h) (fun i s W h => by obtain ⟨S, r, _, _, _, _, _, _, _, _, _, _, h, _⟩ := h; exact h)
   (fun i s W hi h => mix1_any W4 g w.heap.size (w.heap.size + 1) (g + 1) (l.length + 1) p q l k A B i s W (by omega) (by omega) hp hq h) (.int .u64 0) W4 ?h0).mono ?_
  case h0 =>
   exact ⟨[], 0, rfl, by omega, rfl, by simp, by simp [val], by rw [spl_nil]; exact hg4, u1, u2, hb4, hl.below hw4, hk.below hw4, hl.off (by omega), hk.off (by omega), ⟨by omega, by omega, by omega⟩, only_refl _ _⟩
  ·rintro e w1 ⟨s', rfl, S, r, rfl, hr, hS, hSw, hv, hb, _, _, hbox, hA, hB, hoA, hoB, _, hO⟩
   have hc1 := hbox.cell
   have hlen : (spl (zer (l.length + 1)) 0 S).length = l.length + 1 := by rw [spl_length (by rw [zer_length]; omega), zer_length]
   have hc2 := hb.cell (i := l.length) (by omega)
   have hf2 := hb.free l.length
   have hb2 := hb.set_ (i := l.length) hr
   rw [show l.length = 0 + S.length from by omega, spl_set _ (by rw [zer_length]; omega), ← show l.length = 0 + S.length from by omega] at hb2
   have hv2 : val (S ++ [r]) = val k * p + val l * q := by
    rw [val_snoc, hS, hv, List.take_length, List.take_of_length_le hkl, Nat.mul_comm p, Nat.mul_comm q]
   have hga : w.heap.size ≤ g := by omega
   have hw2 : Below a.heap.size a (w1.setCell ⟨g, l.length, none⟩ (.int .u32 (r : Int))) := bs (bt hw (bo hw4 hO hga)) (by have := hw.size; simp; omega) _
   have hgs : a.heap.size ≤ g := Nat.le_trans hw.size hga
   have HS := Hi hS
   have HV := Hi hv2
   have HB := Hi hb2
   have HL := Hi hlen
   clear hS hv hv2 hb2 hlen hb hg
   generalize gd (spl (zer (l.length + 1)) 0 S) l.length = z at *
   go_wp2_with fail
   refine (trim_own a _ g (l.length + 1) (l.length + 1) (spl (zer (l.length + 1)) 0 (S ++ [r])) (val k * p + val l * q) (by omega) (Nat.le_refl _) hgs HB.out (by rw [spl_length (by simp [zer_length, HS.out]), zer_length]; omega) ?_ hw2).mono ?_
   ·rw [← HV.out]
    exact m0151e
   ·rintro e w2 h
    exact mae45d
open Go.RowKit
variable {L S : List Nat} {W W' a b c : World} {g h i m p s x : Nat} {v : Int}
def JBox (W : World) (p : Nat) (v : Int) : Prop := W.heap[p]? = some (.cells #[.int .i64 v] 2 (0, 0))
theorem JBox.cell (h : JBox W p v) : W.cell? ⟨p, 0, none⟩ = some (.int .i64 v) := by
 rw [cell_of_row W p 0 _ _ (0, 0) h]; rfl
theorem JBox.lt (h : JBox W p v) : p < W.heap.size := by
 rcases Nat.lt_or_ge p W.heap.size with hlt | hge
 ·exact hlt
 ·unfold JBox at h; rw [Array.getElem?_eq_none hge] at h; cases h
theorem JBox.free (h : JBox W p v) (i : Nat) : W.frozen? ⟨p, i, none⟩ = false := by
 unfold JBox at h
 simp [World.frozen?, h]
theorem JBox.only (h : JBox W p v) (hb : Only g W W') (hne : p ≠ g) : JBox W' p v := (hb.block p h.lt (fun e => hne (by injection e))).trans h
theorem JBox.below (h : JBox W p v) (hb : Below W.heap.size W W') : JBox W' p v := (hb.block p h.lt).trans h
def PBox (W : World) (p s : Nat) : Prop := W.heap[p]? = some (.cells #[.pointer (some ⟨s, 0, none⟩)] 148 (0, 0))
theorem PBox.cell (h : PBox W p s) : W.cell? ⟨p, 0, none⟩ = some (.pointer (some ⟨s, 0, none⟩)) := by
 rw [cell_of_row W p 0 _ _ (0, 0) h]; rfl
theorem PBox.lt (h : PBox W p s) : p < W.heap.size := by
 rcases Nat.lt_or_ge p W.heap.size with hlt | hge
 ·exact hlt
 ·unfold PBox at h; rw [Array.getElem?_eq_none hge] at h; cases h
theorem PBox.only (h : PBox W p s) (hb : Only g W W') (hne : p ≠ g) : PBox W' p s := (hb.block p h.lt (fun e => hne (by injection e))).trans h
theorem PBox.below (h : PBox W p s) (hb : Below W.heap.size W W') : PBox W' p s := (hb.block p h.lt).trans h
def lay (L : List Nat) (m : Nat) (S : List Nat) : List Nat := spl L 0 (S.take m)
theorem turn_step {ca P Q t w c' α β x y : Int} {w' : Nat} (hS : S.length = i) (hv : (val S : Int) + BB i * ca = P * α - Q * β) (ht : t = ca + (P * x - Q * y)) (hw : (w' : Int) + 4294967296 * c' = t) (_ : w = w') :
  (val (S ++ [w']) : Int) + BB (i + 1) * c' = P * (α + BB i * x) - Q * (β + BB i * y) := by
 rw [val_snoc, hS, BB_succ]
 have h1 : (BB i : Int) * ((w' : Int) + 4294967296 * c') = BB i * ca + BB i * (P * x) - BB i * (Q * y) := by rw [hw, ht, Int.mul_add, Int.mul_sub]; omega
 rw [Int.mul_add] at h1
 have e1 : P * ((BB i : Int) * x) = BB i * (P * x) := by rw [Int.mul_left_comm]
 have e2 : Q * ((BB i : Int) * y) = BB i * (Q * y) := by rw [Int.mul_left_comm]
 have e3 : ((val S + BB i * w' : Nat) : Int) = (val S : Int) + BB i * w' := by simp
 have e4 : ((BB i * 4294967296 : Nat) : Int) * c' = BB i * (4294967296 * c') := by simp [Int.mul_assoc]
 rw [e3, e4, Int.mul_add, Int.mul_add, e1, e2]
 omega
theorem turn_bound {P Q x y : Int} (hs : (0 ≤ P ∧ 0 ≤ Q) ∨ (P ≤ 0 ∧ Q ≤ 0)) (hP : -2147483648 < P ∧ P < 2147483648) (hQ : -2147483648 < Q ∧ Q < 2147483648) (hx : 0 ≤ x ∧ x ≤ 4294967295) (hy : 0 ≤ y ∧ y ≤ 4294967295) :
  (-9223372030412324865 ≤ P * x ∧ P * x ≤ 9223372030412324865) ∧ (-9223372030412324865 ≤ Q * y ∧ Q * y ≤ 9223372030412324865) ∧ -9223372030412324865 ≤ P * x - Q * y ∧ P * x - Q * y ≤ 9223372030412324865 := by
 have key : ∀ {A z : Int}, 0 ≤ A → A ≤ 2147483647 → 0 ≤ z → z ≤ 4294967295 → 0 ≤ A * z ∧ A * z ≤ 9223372030412324865 := fun {A z} h1 h2 h3 h4 => by
  refine ⟨Int.mul_nonneg h1 h3, ?_⟩
  have := Int.mul_le_mul h2 h4 h3 (by omega)
  omega
 rcases hs with ⟨h1, h2⟩ | ⟨h1, h2⟩
 ·have a := key h1 (by omega) hx.1 hx.2
  have b := key h2 (by omega) hy.1 hy.2
  omega
 ·have a := key (A := -P) (by omega) (by omega) hx.1 hx.2
  have b := key (A := -Q) (by omega) (by omega) hy.1 hy.2
  rw [Int.neg_mul] at a b
  omega
def TurnI (w0 : World) (s ga gb b1 b2 b3 b4 b5 n m ca cb : Nat) (X Y : Value) (od : Value) (P Q U V : Int) (la lb La Lb : List Nat) (i : Nat) (x y : Int) (W : World) : Prop :=
 ∃ (Sa Sb : List Nat), (-2147483648 ≤ x ∧ x ≤ 2147483647) ∧ (-2147483648 ≤ y ∧ y ≤ 2147483647) ∧ Sa.length = i ∧ Sb.length = i ∧ (∀ z ∈ Sa, z < 4294967296) ∧ (∀ z ∈ Sb, z < 4294967296) ∧
  (val Sa : Int) + BB i * x = P * val (la.take i) - Q * val (lb.take i) ∧ (val Sb : Int) + BB i * y = V * val (lb.take i) - U * val (la.take i) ∧
  Blk W ga (lay La n Sa) ∧ Blk W gb (lay Lb m Sb) ∧ JBox W b1 P ∧ JBox W b2 Q ∧ JBox W b3 V ∧ JBox W b4 U ∧ PBox W b5 s ∧
  Cells W s 125 #[.slice (some ⟨ga, 0, none⟩) n ca, .slice (some ⟨gb, 0, none⟩) m cb, X, Y, od] ∧ On2 ga gb w0 W
structure Apart (s ga gb b1 b2 b3 b4 b5 : Nat) : Prop where
 ab : ga ≠ gb
 sa : s ≠ ga
 sb : s ≠ gb
 a1 : b1 ≠ ga
 a2 : b2 ≠ ga
 a3 : b3 ≠ ga
 a4 : b4 ≠ ga
 a5 : b5 ≠ ga
 c1 : b1 ≠ gb
 c2 : b2 ≠ gb
 c3 : b3 ≠ gb
 c4 : b4 ≠ gb
 c5 : b5 ≠ gb
theorem lay_length (h : m ≤ L.length) : (lay L m S).length = L.length := by
 unfold lay; exact spl_length (by rw [List.length_take]; omega)
theorem lay_get (h : m ≤ L.length) (hS : S.length = i) : gd (lay L m S) i = gd L i := by
 unfold lay; exact spl_get (by rw [List.length_take]; omega) (by rw [List.length_take]; omega)
theorem lay_set (h : m ≤ L.length) (hS : S.length = i) (hi : i < m) : (lay L m S).set i x = lay L m (S ++ [x]) := by
 unfold lay
 rw [List.take_of_length_le (by omega), List.take_of_length_le (by simp; omega)]
 have := spl_set (L := L) (o := 0) (S := S) x (by omega)
 rwa [Nat.zero_add, hS] at this
theorem lay_out (hS : S.length = i) (hi : m ≤ i) : lay L m (S ++ [x]) = lay L m S := by
 unfold lay
 rw [List.take_append_of_le_length (by omega)]
theorem JBox.on2 (k : JBox W p v) (hb : On2 g h W W') (h1 : p ≠ g) (h2 : p ≠ h) : JBox W' p v := (hb.2.2.2.2 p k.lt h1 h2).trans k
theorem PBox.on2 (k : PBox W p s) (hb : On2 g h W W') (h1 : p ≠ g) (h2 : p ≠ h) : PBox W' p s := (hb.2.2.2.2 p k.lt h1 h2).trans k
theorem turn1_any (w0 : World) (s ga gb b1 b2 b3 b4 b5 n m ca cb : Nat) (X Y od : Value) (P Q U V : Int) (la lb La Lb : List Nat) (i : Nat) (x y : Int) (W : World) (hi : i < n) (hn : n ≤ La.length) (hm : m ≤ Lb.length) (hn2 : n ≤ 4000000) (hm2 : m ≤ 4000000) (hwa : ∀ z ∈ la, z < 4294967296) (hwb : ∀ z ∈ lb, z < 4294967296)
  (hPQ : (0 ≤ P ∧ 0 ≤ Q) ∨ (P ≤ 0 ∧ Q ≤ 0)) (hUV : (0 ≤ V ∧ 0 ≤ U) ∨ (V ≤ 0 ∧ U ≤ 0)) (hP : -2147483648 < P ∧ P < 2147483648) (hQ : -2147483648 < Q ∧ Q < 2147483648) (hU : -2147483648 < U ∧ U < 2147483648) (hV : -2147483648 < V ∧ V < 2147483648)
  (ap : Apart s ga gb b1 b2 b3 b4 b5) (h : TurnI w0 s ga gb b1 b2 b3 b4 b5 n m ca cb X Y od P Q U V la lb La Lb i x y W) :
  Calls Tryz.prog 196 #[car x y, .int .i64 (i : Int), .int .u32 (gd la i : Int), .int .u32 (gd lb i : Int), .pointer (some ⟨b1, 0, none⟩), .pointer (some ⟨b2, 0, none⟩), .pointer (some ⟨b3, 0, none⟩), .pointer (some ⟨b4, 0, none⟩), .pointer (some ⟨b5, 0, none⟩)] W
   (StepC (TurnI w0 s ga gb b1 b2 b3 b4 b5 n m ca cb X Y od P Q U V la lb La Lb) ga gb (i + 1) W) := by
 obtain ⟨Sa, Sb, ⟨hx1, hx2⟩, ⟨hy1, hy2⟩, hSa, hSb, hSaw, hSbw, hva, hvb, hba, hbb, j1, j2, j3, j4, pb, hs, hO⟩ := h
 have hgx := getD_lt hwa i
 have hgy := getD_lt hwb i
 have H1 := val_take_any la i
 have H2 := val_take_any lb i
 obtain ⟨gx, hgxe⟩ : ∃ z, z = gd la i := ⟨_, rfl⟩
 obtain ⟨gy, hgye⟩ : ∃ z, z = gd lb i := ⟨_, rfl⟩
 rw [← hgxe] at H1 hgx ⊢
 rw [← hgye] at H2 hgy ⊢
 obtain ⟨bm1, bm2, bd1, bd2⟩ := turn_bound hPQ hP hQ (x := gx) (y := gy) ⟨by omega, by omega⟩ ⟨by omega, by omega⟩
 obtain ⟨bm3, bm4, bd3, bd4⟩ := turn_bound hUV hV hU (x := gy) (y := gx) ⟨by omega, by omega⟩ ⟨by omega, by omega⟩
 obtain ⟨m1, hm1⟩ : ∃ z, z = P * (gx : Int) := ⟨_, rfl⟩
 obtain ⟨m2, hm2'⟩ : ∃ z, z = Q * (gy : Int) := ⟨_, rfl⟩
 obtain ⟨m3, hm3⟩ : ∃ z, z = V * (gy : Int) := ⟨_, rfl⟩
 obtain ⟨m4, hm4⟩ : ∃ z, z = U * (gx : Int) := ⟨_, rfl⟩
 obtain ⟨t1, ht1⟩ : ∃ z, z = x + (m1 - m2) := ⟨_, rfl⟩
 obtain ⟨t2, ht2⟩ : ∃ z, z = y + (m3 - m4) := ⟨_, rfl⟩
 have sa := turn_step (t := t1) (c' := t1 / 4294967296) (w' := (t1 % 4294967296).toNat) (x := (gx : Int)) (y := (gy : Int)) (α := (val (la.take i) : Int)) (β := (val (lb.take i) : Int)) (w := (t1 % 4294967296).toNat) hSa hva (by rw [ht1, hm1, hm2']) (by omega) rfl
 have sb := turn_step (t := t2) (c' := t2 / 4294967296) (w' := (t2 % 4294967296).toNat) (x := (gy : Int)) (y := (gx : Int)) (α := (val (lb.take i) : Int)) (β := (val (la.take i) : Int)) (w := (t2 % 4294967296).toNat) hSb hvb (by rw [ht2, hm3, hm4]) (by omega) rfl
 rw [← hm1] at bm1 bd1 bd2
 rw [← hm2'] at bm2 bd1 bd2
 rw [← hm3] at bm3 bd3 bd4
 rw [← hm4] at bm4 bd3 bd4
 have ew : ∀ (a b : Nat) (c : Nat), ((a + b * c : Nat) : Int) = (a : Int) + b * c := fun a b c => by simp
 rw [← ew, ← ew, ← H1, ← H2] at sa sb
 obtain ⟨wa, hwae⟩ : ∃ z, z = (t1 % 4294967296).toNat := ⟨_, rfl⟩
 obtain ⟨wb, hwbe⟩ : ∃ z, z = (t2 % 4294967296).toNat := ⟨_, rfl⟩
 obtain ⟨xa, hxa⟩ : ∃ z, z = t1 / 4294967296 := ⟨_, rfl⟩
 obtain ⟨xb, hxb⟩ : ∃ z, z = t2 / 4294967296 := ⟨_, rfl⟩
 rw [← hwae, ← hxa] at sa
 rw [← hwbe, ← hxb] at sb
 have hwal : wa < 4294967296 := by omega
 have hwbl : wb < 4294967296 := by omega
 have hxa1 : -2147483648 ≤ xa ∧ xa ≤ 2147483647 := by omega
 have hxb1 : -2147483648 ≤ xb ∧ xb ≤ 2147483647 := by omega
 have hwai : IntKind.u32.wrap t1 = (wa : Int) := by simp [IntKind.wrap, IntKind.signed, IntKind.bits]; omega
 have hwbi : IntKind.u32.wrap t2 = (wb : Int) := by simp [IntKind.wrap, IntKind.signed, IntKind.bits]; omega
 have ht1b : -9223372036854775808 ≤ t1 ∧ t1 ≤ 9223372036854775807 := by omega
 have ht2b : -9223372036854775808 ≤ t2 ∧ t2 ≤ 9223372036854775807 := by omega
 have HSA := Hi sa
 have HSB := Hi sb
 have c1 := j1.cell
 have c2 := j2.cell
 have c3 := j3.cell
 have c4 := j4.cell
 have c5 := pb.cell
 have l1 := j1.lt
 have l2 := j2.lt
 have l3 := j3.lt
 have l4 := j4.lt
 have l5 := pb.lt
 have ls := hs.lt
 have lga := hba.lt
 have lgb := hbb.lt
 have hm1' := hm1.symm
 have hm2'' := hm2'.symm
 have hm3' := hm3.symm
 have hm4' := hm4.symm
 have ht1' := ht1.symm
 have ht2' := ht2.symm
 have hxa' := hxa.symm
 have hxb' := hxb.symm
 clear hm1 hm2' hm3 hm4 ht1 ht2 hxa hxb hwae hwbe sa sb H1 H2 hva hvb ew hgxe hgye
 have HSa := Hi hSa
 have HSb := Hi hSb
 have HAP := Hi ap
 clear hSa hSb
 go_enter Tryz.func196, Tryz.ntmps196
 go_upto_region 3 with fail
 obtain ⟨W2, hW2, hF2, hR2, hw2, hs2⟩ : ∃ W2, W2 = (W.alloc (.cells #[.int .i64 t1, .int .i64 t2] 164)).alloc (.cells #[.int .i64 0, .int .i64 0] 164) ∧ Cells W2 W.heap.size 164 #[.int .i64 t1, .int .i64 t2] ∧ Cells W2 (W.heap.size + 1) 164 #[.int .i64 0, .int .i64 0] ∧ Below W.heap.size W W2 ∧ W.heap.size + 1 < W2.heap.size := by
  refine ⟨_, rfl, (Cells.new W _ _).below (ba (b0 _) _), ?_, ba (ba (b0 _) _) _, by simp⟩
  have h := Cells.new (W.alloc (.cells #[.int .i64 t1, .int .i64 t2] 164)) 164 #[.int .i64 0, .int .i64 0]
  rw [World.size_alloc] at h; exact h
 rw [← hW2]
 clear hW2 hm1' hm2'' hm3' hm4' ht1' ht2' bm1 bm2 bm3 bm4 bd1 bd2 bd3 bd4 c1 c2 c3 c4 c5
 have ba2 := hba.below hw2
 have bb2 := hbb.below hw2
 have pb2 := pb.below hw2
 have es2 := hs.below hw2
 have nF : W.heap.size ≠ ga := by omega
 have nF' : W.heap.size ≠ gb := by omega
 have nR : W.heap.size + 1 ≠ ga := by omega
 have nR' : W.heap.size + 1 ≠ gb := by omega
 have hla : (lay La n Sa).length = La.length := lay_length hn
 have hlb : (lay Lb m Sb).length = Lb.length := lay_length hm
 have HLA := Hi hla
 have HLB := Hi hlb
 clear hla hlb
 go_cut [] (fun wx => Cells wx W.heap.size 164 #[.int .i64 t1, .int .i64 t2] ∧ Cells wx (W.heap.size + 1) 164 #[.int .i64 0, .int .i64 0] ∧ Blk wx ga (lay La n (Sa ++ [wa])) ∧ Only ga W2 wx)
 case first =>
  have c5 := pb2.cell
  have e0 := es2.at_ 0
  simp at e0
  have a0 := hF2.at_ 0
  simp at a0
  have hcell := ba2.cell (i := i) (by rw [HLA.out]; omega)
  have hfree := ba2.free i
  have hii : (i : Int) < (n : Int) := by omega
  generalize gd (lay La n Sa) i = z at *
  go_region_law fail
  all_goals (go_wp2_with fail; go_meet)
  all_goals
   have hset := ba2.set_ (i := i) hwal
   rw [lay_set hn HSa.out hi] at hset
   exact ⟨hF2.far nF i (.int .u32 (wa : Int)), hR2.far nR i (.int .u32 (wa : Int)), hset, ((only_refl ga W2).set_ (p := ⟨ga, i, none⟩) (.inl rfl) (.int .u32 (wa : Int))).draw 1⟩
 case rest =>
  obtain ⟨hF3, hR3, ba3, hO3⟩ := hcut
  obtain ⟨w3, hw3⟩ : ∃ v, v = wc := ⟨_, rfl⟩
  rw [← hw3] at hF3 hR3 ba3 hO3 ⊢
  clear hw3 wc
  have bb3 := bb2.only hO3 (fun e => HAP.out.ab e.symm)
  have pb3 := pb2.only hO3 HAP.out.a5
  have es3 := es2.only hO3 HAP.out.sa
  have o3 : On2 ga gb W w3 := (On2.below hw2).trans (On2.only hO3)
  have lF3 := hF3.lt
  have c5 := pb3.cell
  have e1 := es3.at_ 1
  simp at e1
  by_cases hib : i < m
  ·have hibi : (i : Int) < (m : Int) := by omega
   go_upto_region 5 with fail
   go_cut [] (fun wx => Cells wx W.heap.size 164 #[.int .i64 t1, .int .i64 t2] ∧ Cells wx (W.heap.size + 1) 164 #[.int .i64 0, .int .i64 0] ∧ Blk wx gb (lay Lb m (Sb ++ [wb])) ∧ Only gb w3 wx)
   case first =>
    have a1 := hF3.at_ 1
    simp at a1
    have hcell := bb3.cell (i := i) (by rw [HLB.out]; omega)
    have hfree := bb3.free i
    generalize gd (lay Lb m Sb) i = z at *
    go_region_law fail
    all_goals (go_wp2_with fail; go_meet)
    all_goals
     have hset := bb3.set_ (i := i) hwbl
     rw [lay_set hm HSb.out hib] at hset
     exact ⟨hF3.far nF' i (.int .u32 (wb : Int)), hR3.far nR' i (.int .u32 (wb : Int)), hset, ((only_refl gb w3).set_ (p := ⟨gb, i, none⟩) (.inl rfl) (.int .u32 (wb : Int))).draw 1⟩
   case rest =>
    obtain ⟨hF4, hR4, bb4, hO4⟩ := hcut
    obtain ⟨w4, hw4⟩ : ∃ v, v = wc := ⟨_, rfl⟩
    rw [← hw4] at hF4 hR4 bb4 hO4 ⊢
    clear hw4 wc
    have ba4 := ba3.only hO4 HAP.out.ab
    have o4 : On2 ga gb W w4 := o3.trans (On2.only' hO4)
    have z0 := (((hR4.set_ 0 (.int .i64 xa)).set_ 1 (.int .i64 xb)))
    simp only [Array.setIfInBounds, List.size_toArray, List.length_cons, List.length_nil] at z0
    have y0' := z0.at_ 0
    have y1' := z0.at_ 1
    simp at y0' y1'
    have HY := Hi (And.intro y0' y1')
    have a0 := hF4.at_ 0
    have a1 := hF4.at_ 1
    have r0 := hR4.at_ 0
    have r1 := hR4.at_ 1
    simp at a0 a1 r0 r1
    have q0 := hR4.free 0
    have q1 := hR4.free 1
    clear y0' y1' z0
    go_wp2_with fail
    obtain ⟨y0', y1'⟩ := HY.out
    refine bodyPost_ret (v := car xa xb) (by simp [results, Tryz.results196, go_sem, y0', y1']) rfl ?_
    have kO : Only (W.heap.size + 1) w4 ((w4.setCell ⟨W.heap.size + 1, 0, none⟩ (.int .i64 xa)).setCell ⟨W.heap.size + 1, 1, none⟩ (.int .i64 xb)) := ((only_refl (W.heap.size + 1) w4).set_ (p := ⟨W.heap.size + 1, 0, none⟩) (.inl rfl) _).set_ (p := ⟨W.heap.size + 1, 1, none⟩) (.inl rfl) _
    have kW : On2 ga gb W ((w4.setCell ⟨W.heap.size + 1, 0, none⟩ (.int .i64 xa)).setCell ⟨W.heap.size + 1, 1, none⟩ (.int .i64 xb)) := o4.fresh kO (by omega)
    exact ⟨xa, xb, rfl, ⟨Sa ++ [wa], Sb ++ [wb], hxa1, hxb1, by simp [HSa.out], by simp [HSb.out], words_snoc hSaw hwal, words_snoc hSbw hwbl, HSA.out, HSB.out, ba4.only kO (fun e => nR e.symm), bb4.only kO (fun e => nR' e.symm), j1.on2 kW HAP.out.a1 HAP.out.c1, j2.on2 kW HAP.out.a2 HAP.out.c2, j3.on2 kW HAP.out.a3 HAP.out.c3, j4.on2 kW HAP.out.a4 HAP.out.c4, pb.on2 kW HAP.out.a5 HAP.out.c5, hs.on2 kW HAP.out.sa HAP.out.sb, hO.trans kW⟩, kW⟩
  ·have hibi : ¬ (i : Int) < (m : Int) := by omega
   have bb4 : Blk w3 gb (lay Lb m (Sb ++ [wb])) := by rw [lay_out HSb.out (by omega)]; exact bb3
   have z0 := (((hR3.set_ 0 (.int .i64 xa)).set_ 1 (.int .i64 xb)))
   simp only [Array.setIfInBounds, List.size_toArray, List.length_cons, List.length_nil] at z0
   have y0' := z0.at_ 0
   have y1' := z0.at_ 1
   simp at y0' y1'
   have HY := Hi (And.intro y0' y1')
   have a0 := hF3.at_ 0
   have a1 := hF3.at_ 1
   have r0 := hR3.at_ 0
   have r1 := hR3.at_ 1
   simp at a0 a1 r0 r1
   have q0 := hR3.free 0
   have q1 := hR3.free 1
   clear y0' y1' z0
   go_wp2_with fail
   obtain ⟨y0', y1'⟩ := HY.out
   refine bodyPost_ret (v := car xa xb) (by simp [results, Tryz.results196, go_sem, y0', y1']) rfl ?_
   have kO : Only (W.heap.size + 1) w3 ((w3.setCell ⟨W.heap.size + 1, 0, none⟩ (.int .i64 xa)).setCell ⟨W.heap.size + 1, 1, none⟩ (.int .i64 xb)) := ((only_refl (W.heap.size + 1) w3).set_ (p := ⟨W.heap.size + 1, 0, none⟩) (.inl rfl) _).set_ (p := ⟨W.heap.size + 1, 1, none⟩) (.inl rfl) _
   have kW : On2 ga gb W ((w3.setCell ⟨W.heap.size + 1, 0, none⟩ (.int .i64 xa)).setCell ⟨W.heap.size + 1, 1, none⟩ (.int .i64 xb)) := o3.fresh kO (by omega)
   exact ⟨xa, xb, rfl, ⟨Sa ++ [wa], Sb ++ [wb], hxa1, hxb1, by simp [HSa.out], by simp [HSb.out], words_snoc hSaw hwal, words_snoc hSbw hwbl, HSA.out, HSB.out, ba3.only kO (fun e => nR e.symm), bb4.only kO (fun e => nR' e.symm), j1.on2 kW HAP.out.a1 HAP.out.c1, j2.on2 kW HAP.out.a2 HAP.out.c2, j3.on2 kW HAP.out.a3 HAP.out.c3, j4.on2 kW HAP.out.a4 HAP.out.c4, pb.on2 kW HAP.out.a5 HAP.out.c5, hs.on2 kW HAP.out.sa HAP.out.sb, hO.trans kW⟩, kW⟩
variable {A B : Option Addr} {a a0 a1 a2 b b0 b1 b2 c p p1 p2 q q1 q2 r s u u1 u2 v v1 v2 x x0 y y0 : Nat} {k l : List Nat} {o1 o2 odd : Bool}
structure TS (a0 b0 a b p q u v : Nat) (odd : Bool) : Prop where
 h1 : a0 = v * a + q * b
 h2 : b0 = u * a + p * b
 h3 : if odd then a + p * a0 = q * b0 ∧ b + v * b0 = u * a0 else a + q * b0 = p * a0 ∧ b + u * a0 = v * b0
 h4 : (p = 1 ∧ q = 0 ∧ u = 0 ∧ v = 1) ∨ (p ≤ u ∧ q ≤ v ∧ 0 < q ∧ 0 < u ∧ (q < v ∨ 0 < b ∨ a0 ≤ b0))
theorem TS.start (a b : Nat) : TS a b a b 1 0 0 1 false := ⟨by omega, by omega, by simp, .inl ⟨rfl, rfl, rfl, rfl⟩⟩
theorem TS.one (hc : a = c * b + r) (hc0 : 0 < c) (_ : r < b) : TS a b b r 0 1 1 c true := by
 refine ⟨by omega, by omega, ?_, .inr ⟨by omega, by omega, by omega, by omega, ?_⟩⟩
 ·simp; omega
 ·by_cases h1 : c = 1
  ·subst h1; omega
  ·omega
theorem TS.comp (h : TS a0 b0 a1 b1 p1 q1 u1 v1 o1) (k : TS a1 b1 a2 b2 p2 q2 u2 v2 o2) (hlt : b1 < a1 ∨ a0 = a1 ∧ b0 = b1 ∧ p1 = 1 ∧ q1 = 0 ∧ u1 = 0 ∧ v1 = 1 ∧ o1 = false) :
  TS a0 b0 a2 b2 (p2 * p1 + q2 * u1) (p2 * q1 + q2 * v1) (u2 * p1 + v2 * u1) (u2 * q1 + v2 * v1) (o1 != o2) := by
 obtain ⟨h1, h2, h3, h4⟩ := h
 obtain ⟨k1, k2, k3, k4⟩ := k
 have e1 : v1 * a1 = v2 * v1 * a2 + q2 * v1 * b2 := by rw [k1, Nat.mul_add, ← Nat.mul_assoc, ← Nat.mul_assoc, Nat.mul_comm v1, Nat.mul_comm v1]
 have e2 : q1 * b1 = u2 * q1 * a2 + p2 * q1 * b2 := by rw [k2, Nat.mul_add, ← Nat.mul_assoc, ← Nat.mul_assoc, Nat.mul_comm q1, Nat.mul_comm q1]
 have e3 : u1 * a1 = v2 * u1 * a2 + q2 * u1 * b2 := by rw [k1, Nat.mul_add, ← Nat.mul_assoc, ← Nat.mul_assoc, Nat.mul_comm u1, Nat.mul_comm u1]
 have e4 : p1 * b1 = u2 * p1 * a2 + p2 * p1 * b2 := by rw [k2, Nat.mul_add, ← Nat.mul_assoc, ← Nat.mul_assoc, Nat.mul_comm p1, Nat.mul_comm p1]
 refine ⟨by simp only [Nat.add_mul]; omega, by simp only [Nat.add_mul]; omega, ?_, ?_⟩
 ·have f : ∀ x y z w : Nat, (x * y + z * w) * a0 = x * (y * a0) + z * (w * a0) := fun x y z w => by rw [Nat.add_mul, Nat.mul_assoc, Nat.mul_assoc]
  have f' : ∀ x y z w : Nat, (x * y + z * w) * b0 = x * (y * b0) + z * (w * b0) := fun x y z w => by rw [Nat.add_mul, Nat.mul_assoc, Nat.mul_assoc]
  rw [f, f', f, f']
  cases o1 <;> cases o2 <;> simp at h3 k3 ⊢
  all_goals
   obtain ⟨h5, h6⟩ := h3
   obtain ⟨k5, k6⟩ := k3
   rw [← h5, ← h6]
   simp only [Nat.mul_add]
   omega
 ·rcases k4 with ⟨rfl, rfl, rfl, rfl⟩ | ⟨k5, k6, k7, k8, k9⟩
  ·have ha : a1 = a2 := by omega
   have hb : b1 = b2 := by omega
   subst ha hb
   rcases h4 with ⟨rfl, rfl, rfl, rfl⟩ | h4
   ·left; simp
   ·right; simpa using h4
  ·rcases h4 with ⟨rfl, rfl, rfl, rfl⟩ | ⟨h5, h6, h7, h8, h9⟩
   ·right
    have ha : a0 = a1 := by omega
    have hb : b0 = b1 := by omega
    subst ha hb
    simpa using ⟨k5, k6, k7, k8, k9⟩
   ·right
    have hv : 0 < v1 := by omega
    have hv2 : 0 < v2 := by omega
    have hlt' : b1 < a1 := by rcases hlt with h | h; exact h; omega
    refine ⟨Nat.add_le_add (Nat.mul_le_mul_right _ k5) (Nat.mul_le_mul_right _ k6), Nat.add_le_add (Nat.mul_le_mul_right _ k5) (Nat.mul_le_mul_right _ k6), ?_, ?_, ?_⟩
    ·have := Nat.mul_pos k7 hv; omega
    ·have := Nat.mul_pos hv2 h8; omega
    ·rcases k9 with k9 | k9 | k9
     ·left
      have g1 := Nat.mul_le_mul_right q1 k5
      have g2 := Nat.mul_lt_mul_of_pos_right k9 hv
      omega
     ·right; left; exact k9
     ·omega
structure GI (x0 y0 x y p q u v : Nat) (odd : Bool) : Prop where
 h1 : x0 = v * x + q * y
 h2 : y0 = u * x + p * y
 h3 : if odd then x + p * x0 = q * y0 ∧ y + v * y0 = u * x0 else x + q * y0 = p * x0 ∧ y + u * x0 = v * y0
 det : if odd then q * u = p * v + 1 else p * v = q * u + 1
 h4 : (p = 1 ∧ q = 0 ∧ u = 0 ∧ v = 1) ∨ (p ≤ u ∧ q ≤ v ∧ 0 < q ∧ 0 < u ∧ p ≤ q ∧ u ≤ v)
theorem GI.start (x y : Nat) : GI x y x y 1 0 0 1 false := ⟨by omega, by omega, by simp, by simp, .inl ⟨rfl, rfl, rfl, rfl⟩⟩
theorem GI.step (h : GI a0 b0 a b p q u v odd) (hc : a = c * b + r) (hc0 : 0 < c) : GI a0 b0 b r u v (p + c * u) (q + c * v) (!odd) := by
 obtain ⟨h1, h2, h3, hd, h4⟩ := h
 have e1 : v * a = v * c * b + v * r := by rw [hc, Nat.mul_add, Nat.mul_assoc]
 have e2 : u * a = u * c * b + u * r := by rw [hc, Nat.mul_add, Nat.mul_assoc]
 have e3 : (q + c * v) * b = q * b + v * c * b := by rw [Nat.add_mul, Nat.mul_comm c v]
 have e4 : (p + c * u) * b = p * b + u * c * b := by rw [Nat.add_mul, Nat.mul_comm c u]
 have e5 : (q + c * v) * b0 = q * b0 + c * (v * b0) := by rw [Nat.add_mul, Nat.mul_assoc]
 have e6 : (p + c * u) * a0 = p * a0 + c * (u * a0) := by rw [Nat.add_mul, Nat.mul_assoc]
 have e7 : u * (q + c * v) = q * u + c * (u * v) := by rw [Nat.mul_add, Nat.mul_comm u q, Nat.mul_left_comm]
 have e8 : v * (p + c * u) = p * v + c * (u * v) := by rw [Nat.mul_add, Nat.mul_comm v p, Nat.mul_left_comm, Nat.mul_comm v u]
 have e9 : v ≤ c * v := Nat.le_mul_of_pos_left v hc0
 have e10 : u ≤ c * u := Nat.le_mul_of_pos_left u hc0
 refine ⟨by omega, by omega, ?_, ?_, ?_⟩
 ·cases odd
  ·simp only [Bool.false_eq_true, if_false] at h3
   obtain ⟨h5, h6⟩ := h3
   have e7 : c * (v * b0) = c * b + c * (u * a0) := by rw [← h6, Nat.mul_add]
   simp only [Bool.not_false, if_true]
   exact ⟨h6, by omega⟩
  ·simp only [if_true] at h3
   obtain ⟨h5, h6⟩ := h3
   have e7 : c * (u * a0) = c * b + c * (v * b0) := by rw [← h6, Nat.mul_add]
   simp only [Bool.not_true, Bool.false_eq_true, if_false]
   exact ⟨h6, by omega⟩
 ·cases odd
  ·simp at hd ⊢; omega
  ·simp at hd ⊢; omega
 ·right
  rcases h4 with ⟨rfl, rfl, rfl, rfl⟩ | ⟨h5, h6, h7, h8, h9, h10⟩
  ·simp; omega
  ·have := Nat.mul_le_mul_left c h10
   omega
theorem lehmer (h : GI x0 y0 x y p q u v odd) (hq : 0 < q) (hy : v ≤ y) (hx : q + v ≤ x - y) (ha : a0 < s) (hb : b0 < s) :
  ∃ A B, TS (x0 * s + a0) (y0 * s + b0) A B p q u v odd ∧ 0 < B ∧ B < A := by
 obtain ⟨h1, h2, h3, hd, h4⟩ := h
 rcases h4 with h4 | ⟨h5, h6, h7, h8, h9, h10⟩
 ·omega
 have ga : ∀ n, n * a0 ≤ n * s := fun n => Nat.mul_le_mul_left n (Nat.le_of_lt ha)
 have gb : ∀ n, n * b0 ≤ n * s := fun n => Nat.mul_le_mul_left n (Nat.le_of_lt hb)
 have hxx : q + v + y ≤ x := by omega
 have i1 : (q + v + y) * s ≤ x * s := Nat.mul_le_mul_right s hxx
 have i2 : v * s ≤ y * s := Nat.mul_le_mul_right s hy
 have i3 : p * s ≤ q * s := Nat.mul_le_mul_right s h9
 have i4 : u * s ≤ v * s := Nat.mul_le_mul_right s h10
 have i5 : u * a0 < u * s := Nat.mul_lt_mul_of_pos_left ha h8
 have i6 : q * b0 < q * s := Nat.mul_lt_mul_of_pos_left hb h7
 have i7 : v * b0 < v * s := Nat.mul_lt_mul_of_pos_left hb (by omega)
 have := ga p
 have := gb p
 have := ga u
 simp only [Nat.add_mul] at i1
 have d1 : ∀ n, n * (x0 * s + a0) = n * x0 * s + n * a0 := fun n => by rw [Nat.mul_add, Nat.mul_assoc]
 have d2 : ∀ n, n * (y0 * s + b0) = n * y0 * s + n * b0 := fun n => by rw [Nat.mul_add, Nat.mul_assoc]
 cases odd
 ·simp only [Bool.false_eq_true, if_false] at h3 hd
  obtain ⟨e1, e2⟩ := h3
  have f1 : x * s + q * y0 * s = p * x0 * s := by rw [← e1, Nat.add_mul]
  have f2 : y * s + u * x0 * s = v * y0 * s := by rw [← e2, Nat.add_mul]
  have A1 : x * s + p * a0 - q * b0 + q * (y0 * s + b0) = p * (x0 * s + a0) := by rw [d1, d2]; omega
  have B1 : y * s + v * b0 - u * a0 + u * (x0 * s + a0) = v * (y0 * s + b0) := by rw [d1, d2]; omega
  refine ⟨x * s + p * a0 - q * b0, y * s + v * b0 - u * a0, ⟨?_, ?_, ?_, .inr ⟨h5, h6, h7, h8, .inr (.inl (by omega))⟩⟩, by omega, by omega⟩
  ·generalize x * s + p * a0 - q * b0 = A at *
   generalize y * s + v * b0 - u * a0 = B at *
   generalize x0 * s + a0 = X at *
   generalize y0 * s + b0 = Y at *
   have g1 : v * A + v * q * Y = v * p * X := by rw [Nat.mul_assoc, ← Nat.mul_add, A1, Nat.mul_assoc]
   have g2 : q * B + q * u * X = q * v * Y := by rw [Nat.mul_assoc, ← Nat.mul_add, B1, Nat.mul_assoc]
   have g3 : v * p * X = q * u * X + X := by rw [Nat.mul_comm v p, hd, Nat.add_mul, Nat.one_mul]
   rw [Nat.mul_comm v q] at g1
   omega
  ·generalize x * s + p * a0 - q * b0 = A at *
   generalize y * s + v * b0 - u * a0 = B at *
   generalize x0 * s + a0 = X at *
   generalize y0 * s + b0 = Y at *
   have g1 : u * A + q * u * Y = p * u * X := by rw [Nat.mul_comm q u, Nat.mul_assoc, ← Nat.mul_add, A1, Nat.mul_comm p u, Nat.mul_assoc]
   have g2 : p * B + p * u * X = p * v * Y := by rw [Nat.mul_assoc, ← Nat.mul_add, B1, Nat.mul_assoc]
   have g3 : p * v * Y = q * u * Y + Y := by rw [hd, Nat.add_mul, Nat.one_mul]
   omega
  ·simp only [Bool.false_eq_true, if_false]
   exact ⟨A1, B1⟩
 ·simp only [if_true] at h3 hd
  obtain ⟨e1, e2⟩ := h3
  have f1 : x * s + p * x0 * s = q * y0 * s := by rw [← e1, Nat.add_mul]
  have f2 : y * s + v * y0 * s = u * x0 * s := by rw [← e2, Nat.add_mul]
  have A1 : x * s + q * b0 - p * a0 + p * (x0 * s + a0) = q * (y0 * s + b0) := by rw [d1, d2]; omega
  have B1 : y * s + u * a0 - v * b0 + v * (y0 * s + b0) = u * (x0 * s + a0) := by rw [d1, d2]; omega
  refine ⟨x * s + q * b0 - p * a0, y * s + u * a0 - v * b0, ⟨?_, ?_, ?_, .inr ⟨h5, h6, h7, h8, .inr (.inl (by omega))⟩⟩, by omega, by omega⟩
  ·generalize x * s + q * b0 - p * a0 = A at *
   generalize y * s + u * a0 - v * b0 = B at *
   generalize x0 * s + a0 = X at *
   generalize y0 * s + b0 = Y at *
   have g1 : v * A + p * v * X = q * v * Y := by rw [Nat.mul_comm p v, Nat.mul_assoc, ← Nat.mul_add, A1, Nat.mul_comm q v, Nat.mul_assoc]
   have g2 : q * B + q * v * Y = q * u * X := by rw [Nat.mul_assoc, ← Nat.mul_add, B1, Nat.mul_assoc]
   have g3 : q * u * X = p * v * X + X := by rw [hd, Nat.add_mul, Nat.one_mul]
   omega
  ·generalize x * s + q * b0 - p * a0 = A at *
   generalize y * s + u * a0 - v * b0 = B at *
   generalize x0 * s + a0 = X at *
   generalize y0 * s + b0 = Y at *
   have g1 : u * A + u * p * X = u * q * Y := by rw [Nat.mul_assoc, ← Nat.mul_add, A1, Nat.mul_assoc]
   have g2 : p * B + p * v * Y = p * u * X := by rw [Nat.mul_assoc, ← Nat.mul_add, B1, Nat.mul_assoc]
   have g3 : u * q * Y = p * v * Y + Y := by rw [Nat.mul_comm u q, hd, Nat.add_mul, Nat.one_mul]
   rw [Nat.mul_comm u p] at g1
   omega
  ·simp only [if_true]
   exact ⟨A1, B1⟩
theorem GI.bound (h : GI x0 y0 x y p q u v odd) (h0 : x0 < 4611686018427387904) (hq : 0 < q) (hy : v ≤ y) (hx : q + v ≤ x - y) : p < 2147483648 ∧ q < 2147483648 ∧ u < 2147483648 ∧ v < 2147483648 := by
 obtain ⟨h1, h2, h3, hd, h4⟩ := h
 rcases h4 with h4 | ⟨h5, h6, h7, h8, h9, h10⟩
 ·omega
 have i1 : v * (2 * v) ≤ v * x := Nat.mul_le_mul_left v (by omega)
 have : v < 2147483648 := by
  rcases Nat.lt_or_ge v 2147483648 with h | h
  ·exact h
  ·have := Nat.mul_le_mul h (Nat.mul_le_mul_left 2 h)
   omega
 omega
open Go.RowKit
variable {A B : Option Addr} {a a0 a1 a2 b b0 b1 b2 c p p1 p2 q q1 q2 r s u u1 u2 v v1 v2 x x0 y y0 : Nat} {k l : List Nat} {o1 o2 odd : Bool}
theorem TR.ts (h : TR a0 b0 a b p q u v odd) : TS a0 b0 a b p q u v odd := by
 obtain ⟨h1, h2, h3, h4, h5, h6, h7, h8⟩ := h
 refine ⟨h1, h2, h3, ?_⟩
 rcases h8 with h8 | ⟨h8, h9, h10⟩
 ·exact .inl h8
 ·refine .inr ⟨h8, h4, h9, h10, ?_⟩
  rcases Nat.lt_or_ge b0 a0 with h | h
  ·rcases h7 h with h | h
   ·exact .inl h
   ·exact .inr (.inl h)
  ·exact .inr (.inr h)
theorem TS.tr (h : TS a0 b0 a b p q u v odd) : TR a0 b0 a b p q u v odd := by
 obtain ⟨h1, h2, h3, h4⟩ := h
 rcases h4 with ⟨rfl, rfl, rfl, rfl⟩ | ⟨h5, h6, h7, h8, h9⟩
 ·exact ⟨h1, h2, h3, by omega, by omega, by omega, by omega, .inl ⟨rfl, rfl, rfl, rfl⟩⟩
 ·exact ⟨h1, h2, h3, h6, by omega, by omega, by omega, .inr ⟨h5, h7, h8⟩⟩
theorem TS.v_pos (h : TS a0 b0 a b p q u v odd) : 0 < v := by
 rcases h.h4 with h | h <;> omega
theorem TS.le_a (h : TS a0 b0 a b p q u v odd) : a ≤ a0 := by
 have := h.h1
 have := Nat.le_mul_of_pos_left a h.v_pos
 omega
theorem TS.le_v (h : TS a0 b0 a b p q u v odd) (ha : 0 < a) : v ≤ a0 := by
 have := h.h1
 have := Nat.le_mul_of_pos_right v ha
 omega
theorem TS.q_le (h : TS a0 b0 a b p q u v odd) : q ≤ v := by
 rcases h.h4 with h | h <;> omega
def Desc (a0 b0 a b p q u v : Nat) (odd : Bool) : Prop := b < a ∨ (a0 = a ∧ b0 = b ∧ p = 1 ∧ q = 0 ∧ u = 0 ∧ v = 1 ∧ odd = false)
theorem Desc.le (h : Desc a0 b0 a b p q u v odd) (h0 : b0 ≤ a0) : b ≤ a := by
 rcases h with h | h <;> omega
theorem TS.more (h : TS a0 b0 a1 b1 p1 q1 u1 v1 o1) (hd : Desc a0 b0 a1 b1 p1 q1 u1 v1 o1) (k : TS a1 b1 a2 b2 p2 q2 u2 v2 o2) :
  TS a0 b0 a2 b2 (p2 * p1 + q2 * u1) (p2 * q1 + q2 * v1) (u2 * p1 + v2 * u1) (u2 * q1 + v2 * v1) (o1 != o2) := h.comp k hd
def Dj (A : Option Addr) (l : List Nat) (B : Option Addr) (k : List Nat) : Prop := l ≠ [] → k ≠ [] → ∀ b o b' o', A = some ⟨b, o, none⟩ → B = some ⟨b', o', none⟩ → b ≠ b'
theorem Dj.symm (h : Dj A l B k) : Dj B k A l := fun h1 h2 b o b' o' e1 e2 e3 => h h2 h1 b' o' b o e2 e1 e3.symm
theorem Dj.nil_r (A B : Option Addr) (l : List Nat) : Dj A l B [] := fun _ h => absurd rfl h
theorem Dj.fresh {w w1 w2 : World} (h : WS w A l) (ho : OwnS w1 w2 B k) (hs : w.heap.size ≤ w1.heap.size) : Dj A l B k := by
 intro h1 h2 b o b' o' e1 e2
 obtain ⟨b1, o1, e3, hlt, _⟩ := h.2 h1
 obtain ⟨g, L, e4, hg, _⟩ := ho h2
 rw [e1] at e3
 rw [e2] at e4
 injection e3 with e3
 injection e4 with e4
 injection e3 with e3
 injection e4 with e4
 omega
theorem Dj.more {l k l' k' : List Nat} (h : Dj A l B k) (hl : l ≠ []) (hk : k ≠ []) : Dj A l' B k' := fun _ _ => h hl hk
theorem Dj.off {w : World} {g o : Nat} (h : Dj A l B k) (hA : A = some ⟨g, o, none⟩) (hl : l ≠ []) : Off B k g := fun hk b o' e => (h hl hk g o b o' hA e).symm
structure Own (a W : World) (A : Option Addr) (c : Nat) (l : List Nat) : Prop where
 own : OwnS a W A l
 top : Top l
 cap : l.length ≤ c
theorem Own.ws {a W : World} (h : Own a W A c l) : WS W A l := h.own.ws
theorem Own.below {a W W' : World} (h : Own a W A c l) (hb : Below W.heap.size W W') : Own a W' A c l := ⟨h.own.below hb, h.top, h.cap⟩
theorem Own.mono {a a' W : World} (h : Own a' W A c l) (hs : a.heap.size ≤ a'.heap.size) : Own a W A c l := ⟨h.own.mono hs, h.top, h.cap⟩
theorem Own.nil_ (a W : World) (A : Option Addr) (c : Nat) : Own a W A c [] := ⟨fun h => absurd rfl h, top_nil, Nat.zero_le _⟩
def bv (s : Nat) (W : World) : Nat :=
 match W.cell? ⟨s, 1, none⟩ with
 | some (.slice (some ⟨g, _, _⟩) n _) => (match W.heap[g]? with
  | some (.cells vs _ _) => val ((vs.toList.take n).map fun v => (intOf v).toNat)
  | _ => 0)
 | _ => 0
theorem words_back (L : List Nat) (n : Nat) : ((words L).toList.take n).map (fun v => (intOf v).toNat) = L.take n := by
 unfold words
 rw [List.map_take, List.map_map]
 congr 1
 have : ((fun v => (intOf v).toNat) ∘ fun (x : Nat) => Value.int .u32 (x : Int)) = id := by funext x; simp [intOf]
 rw [this, List.map_id]
theorem bv_eq {a W : World} {s cb : Nat} (hc : W.cell? ⟨s, 1, none⟩ = some (.slice B l.length cb)) (h : OwnS a W B l) : bv s W = val l := by
 unfold bv
 rw [hc]
 by_cases h0 : l = []
 ·subst h0
  cases B with
  | none => rfl
  | some p =>
   obtain ⟨g, o, d⟩ := p
   simp only [List.length_nil]
   split
   ·simp [val]
   ·rfl
 ·obtain ⟨g, L, rfl, hg, hb, ht, hl⟩ := h h0
  simp only [hb.2]
  rw [words_back, ht]
end Go.Proofs.YtgljdfblgpdaaaaGreatDoor
