import Derived.Laws.EntriesVeiled
import Derived.Test.YtgljdfblgpdaaaaGreatDoorPbRefV
import Derived.Test.YtgljdfblgpdaaaaGreatDoorPbSimB
set_option linter.unusedSimpArgs false
set_option linter.unusedVariables false
set_option maxRecDepth 100000
set_option maxHeartbeats 4000000
namespace Go.Proofs.YtgljdfblgpdaaaaGreatDoor
open Go.RowKit Go.Shelf
variable {l1 l2 l3 : List Nat}
theorem terms_any (w : World) (n1 n2 n3 n4 : Bool) (A1 A2 A3 A4 : Option Addr) (c1 c2 c3 c4 i1 i2 i3 i4 : Nat) :
  Calls Tryz.prog 157 #[.agg #[.bool n1, .slice A1 i1 c1, .bool n2, .slice A2 i2 c2], .agg #[.bool n3, .slice A3 i3 c3, .bool n4, .slice A4 i4 c4]] w fun e w' =>
   e = .returned (.func (.func 182) #[] #[.pointer (some ⟨w.heap.size, 0, none⟩), .pointer (some ⟨w.heap.size + 1, 0, none⟩)]) ∧ Box4 w' w.heap.size (.bool n1) (.slice A1 i1 c1) (.bool n2) (.slice A2 i2 c2) ∧ Box4 w' (w.heap.size + 1) (.bool n3) (.slice A3 i3 c3) (.bool n4) (.slice A4 i4 c4) ∧ Below w.heap.size w w' := by
 have hmf : ∀ (fn : Fn) (first cap : Array Value) (w : World), (Instr.makeFunc fn first cap).run Tryz.prog w = .ok (.func fn first cap) w := fun _ _ _ _ => rfl
 go_enter Tryz.func157, Tryz.ntmps157
 go_wp2
 go_ret
 have h := Box4.new (w.alloc (.cells #[.bool n1, .slice A1 i1 c1, .bool n2, .slice A2 i2 c2] 35)) (.bool n3) (.slice A3 i3 c3) (.bool n4) (.slice A4 i4 c4)
 rw [World.size_alloc] at h
 exact ⟨rfl, (Box4.new _ _ _ _ _).alloc _, h, ba (ba (b0 _) _) _⟩
theorem Collect_terms (a0 w : World) (p q : Nat) (hpq : p ≠ q) (hp : a0.heap.size ≤ p) (hq : a0.heap.size ≤ q) (hba : Below a0.heap.size a0 w) {a b c d : Int} {n1 n2 n3 n4 : Bool} {A1 A2 A3 A4 : Option Addr} {c1 c2 c3 c4 : Nat} {l1 l2 l3 l4 : List Nat} {xs : List Int}
  (hP : Pos a b c d) (hT : Terms xs a b c d) (hL : Lt 10 a ∧ Lt 10 b ∧ Lt 10 c ∧ Lt 10 d) (i1 : IV w n1 A1 c1 l1 a) (i2 : IV w n2 A2 c2 l2 b) (i3 : IV w n3 A3 c3 l3 c) (i4 : IV w n4 A4 c4 l4 d)
  (x0 : Box4 w p (.bool n1) (.slice A1 l1.length c1) (.bool n2) (.slice A2 l2.length c2)) (x1 : Box4 w q (.bool n3) (.slice A3 l3.length c3) (.bool n4) (.slice A4 l4.length c4)) :
  Calls Tryz.prog 156 #[.func (.func 182) #[] #[.pointer (some ⟨p, 0, none⟩), .pointer (some ⟨q, 0, none⟩)]] w fun e w' => ∃ v cs, e = .returned v ∧ IRow w' w.heap.size v xs.length cs ∧ Elts w' p q cs xs ∧ Below a0.heap.size a0 w' := by
 have H := Hi (AppendSeq_terms a0 w p q hpq hp hq hba hP hT hL i1 i2 i3 i4 x0 x1)
 clear hP hT hL i1 i2 i3 i4 x0 x1 hba
 go_enter Tryz.func156, Tryz.ntmps156
 go_wp2_with fail
 refine H.out.mono ?_
 rintro e w2 ⟨v, cs, rfl, hr, he, hb⟩
 go_wp2
 go_ret
 exact ⟨v, cs, rfl, hr, he, hb⟩
theorem back_iv {w : World} {r t : Nat} (hrt : r ≠ t) {n m k : Bool} {A B C : Option Addr} {c d f : Nat} {x y z : Int} (hz : IV w k C f l3 z) (hx : IV w n A c l1 x) (hy : IV w m B d l2 y)
  (x0 : Box2 w r (.bool n) (.slice A l1.length c)) (x1 : Box2 w t (.bool m) (.slice B l2.length d)) (h1 : Lt 20 (z * x)) (h2 : Lt 21 (z * x + y)) :
  Calls Tryz.prog 155 #[.agg #[.bool k, .slice C l3.length f], .pointer (some ⟨r, 0, none⟩), .pointer (some ⟨t, 0, none⟩)] w fun e w' =>
   e = .returned (.tuple #[]) ∧ (∃ n' A' c' l', Box2 w' r (.bool n') (.slice A' (List.length l') c') ∧ IV w' n' A' c' l' (z * x + y)) ∧ (∃ m' B' d' k', Box2 w' t (.bool m') (.slice B' (List.length k') d') ∧ IV w' m' B' d' k' x) ∧ On2 r t w w' := by
 have HZ := Hi hz
 have HX := Hi hx
 have HY := Hi hy
 have H1 := Hi h1
 have H2 := Hi h2
 clear hz hx hy h1 h2
 obtain ⟨W1, hW1⟩ : ∃ W, W = w.alloc (.cells #[.bool k, .slice C l3.length f] 24) := ⟨_, rfl⟩
 have hw1 : Below w.heap.size w W1 := by rw [hW1]; exact ba (b0 _) _
 have xz : Box2 W1 w.heap.size (.bool k) (.slice C l3.length f) := by rw [hW1]; exact Box2.new _ _ _
 have hxr := x0.lt
 have hxt := x1.lt
 replace x0 := x0.below hw1
 replace x1 := x1.below hw1
 go_enter Tryz.func155, Tryz.ntmps155
 go_wp2_with fail
 rw [← hW1]
 clear hW1
 have HC := (hj x0.hc (hj x1.hc xz.hc))
 have HW := Hi hw1
 have Gx0 := Hi x0
 have Gx1 := Hi x1
 have Gxz := Hi xz
 clear x0 x1 xz hw1
 refine rg0 6 HC fun hHeld => ?_
 refine tk 0 ?_
 refine tk 1 ?_
 refine tk 3 ?_
 refine tk 5 ?_
 refine cl 2 fun K hK => ?_
 go_simp
 go_at_call 22
 refine (Mul_iv (HZ.out.below (bt HW.out (bw (b0 _)))) (HX.out.below (bt HW.out (bw (b0 _)))) rfl (lt_le H1.out (by decide))).mono ?_
 rintro e wa ⟨n5, A5, c5, l5, rfl, i5, hb⟩
 have HBwa := Hi (bt (bw (b0 W1)) hb)
 have I5 := Hi i5
 clear hb i5 hHeld
 refine rk hK (HC.out _ HBwa.out) fun hHeld => ?_
 clear hK K
 refine cl 4 fun K hK => ?_
 go_simp
 go_at_call 18
 refine (Add_iv (I5.out.below (b0 _)) (HY.out.below (bt HW.out HBwa.out)) rfl (lt_le H2.out (by decide))).mono ?_
 rintro e wb ⟨n6, A6, c6, l6, rfl, i6, hb⟩
 have HBwb := Hi (bt HBwa.out hb)
 have I6 := Hi i6
 clear hb i6 hHeld
 refine rk hK (HC.out _ HBwb.out) fun hHeld => ?_
 clear hK K
 refine wpAnyH_done (by kernel_rfl) ?_ _
 simp only [HT]
 clear hHeld
 have x0 := Gx0.out.below HBwb.out
 have x1 := Gx1.out.below HBwb.out
 have hw1_ := bt HW.out HBwb.out
 have f0 := x0.free 0
 have e0 := x1.free 0
 have f1 := x0.free 1
 have e1 := x1.free 1
 refine g0i1i ?_
 intros
 go_end0
 obtain ⟨W5, hW5⟩ : ∃ W, W = (wb.setCell ⟨r, 0, none⟩ (.bool n6)).setCell ⟨r, 1, none⟩ (.slice A6 l6.length c6) := ⟨_, rfl⟩
 have o1 : Only r wb W5 := by rw [hW5]; exact ((only_refl r wb).set_ (.inl rfl) _).set_ (.inl rfl) _
 have y0 : Box2 W5 r (.bool n6) (.slice A6 l6.length c6) := by rw [hW5]; exact (x0.set0 _).set1 _
 have y1 : Box2 W5 t (.bool m) (.slice B l2.length d) := x1.only o1 (fun e => hrt e.symm)
 have iv5 : ∀ {n A c l z}, IV wb n A c l z → IV W5 n A c l z := fun h => by rw [hW5]; exact h.two x0 _ _
 rw [← hW5]
 obtain ⟨W6, hW6⟩ : ∃ W, W = (W5.setCell ⟨t, 0, none⟩ (.bool n)).setCell ⟨t, 1, none⟩ (.slice A l1.length c) := ⟨_, rfl⟩
 have o2 : Only t W5 W6 := by rw [hW6]; exact ((only_refl t W5).set_ (.inl rfl) _).set_ (.inl rfl) _
 have z1 : Box2 W6 t (.bool n) (.slice A l1.length c) := by rw [hW6]; exact (y1.set0 _).set1 _
 have z0 : Box2 W6 r (.bool n6) (.slice A6 l6.length c6) := y0.only o2 hrt
 have iv6 : ∀ {n A c l z}, IV W5 n A c l z → IV W6 n A c l z := fun h => by rw [hW6]; exact h.two y1 _ _
 rw [← hW6]
 exact ⟨rfl, ⟨_, _, _, _, z0, iv6 (iv5 I6.out)⟩, ⟨_, _, _, _, z1, iv6 (iv5 (HX.out.below hw1_))⟩, ((On2.below hw1_).trans (On2.only o1)).trans (On2.only' o2)⟩
open Go.RowKit Go.Shelf
variable {A B W : World} {i p q r t : Nat}
attribute [local go_sem] Oper.semAt_some
theorem lt_pos {x y : Int} (h0 : 0 ≤ x) (h : x ≤ y) (hy : Lt i y) : Lt i x := by unfold Lt at *; omega
theorem terms_lt : ∀ (ts : List Int) (a b c d : Int), Pos a b c d → Terms ts a b c d → (Lt 10 a ∧ Lt 10 b ∧ Lt 10 c ∧ Lt 10 d) → ∀ j, Lt 10 (tmade (ts.drop j)).1 ∧ Lt 10 (tmade (ts.drop j)).2 ∧ (j < ts.length → Lt 10 (ts.getD j 0))
 | [], _, _, _, _, _, h, _, _ => h.elim
 | t :: ts, a, b, c, d, h, hT, hL, 0 => by
  have hs := simp_of _ _ _ _ _ h hT
  have h1 := hs.least a b h.pa h.pb (Int.le_refl _) h.ple
  refine ⟨lt_pos (by have := hs.pp; simp only [List.drop_zero]; omega) h1.1 hL.1, lt_pos (by have := hs.pq; simp only [List.drop_zero]; omega) h1.2 hL.2.1, fun _ => ?_⟩
  have ha := h.pa
  have hb := h.pb
  have hc := h.pc
  have hd := h.pd
  have hq : 0 ≤ a / b := Int.ediv_nonneg (by omega) (by omega)
  show Lt 10 t
  rcases hT with ⟨_, _, rfl⟩ | ⟨_, _, h2, rfl⟩ | ⟨_, _, rfl, _⟩
  ·exact lt_ediv hL.1
  ·refine lt_pos (by omega) (y := c) ?_ hL.2.2.1
   obtain ⟨s, hs⟩ : ∃ s, s = a / b := ⟨_, rfl⟩
   rw [← hs] at h2 hq ⊢
   have h3 : (s + 1) * 1 ≤ (s + 1) * d := Int.mul_le_mul_of_nonneg_left (by omega) (by omega)
   simp only [Int.add_mul, Int.mul_one, Int.one_mul] at h3
   omega
  ·exact lt_ediv hL.1
 | t :: ts, a, b, c, d, h, hT, hL, j + 1 => by
  rcases hT with ⟨rfl, _⟩ | ⟨rfl, _⟩ | ⟨h1, h2, _, hT⟩
  ·simp only [List.drop_succ_cons, List.drop_nil, tmade]
   exact ⟨lt_le (lt_one (by decide)) (by decide), lt_zero 10, fun h => by simp at h⟩
  ·simp only [List.drop_succ_cons, List.drop_nil, tmade]
   exact ⟨lt_le (lt_one (by decide)) (by decide), lt_zero 10, fun h => by simp at h⟩
  ·have hn := h.next h1
   have hu : Lt 10 (c - a / b * d) := by
    have h3 := hn.pb
    exact lt_pos (by omega) (y := d) (by omega) hL.2.2.2
   have ih := terms_lt ts _ _ _ _ hn hT ⟨hL.2.2.2, hu, hL.2.1, lt_emod (by have := h.pb; omega) hL.2.1⟩ j
   simp only [List.drop_succ_cons, List.length_cons, List.getD_cons_succ]
   exact ⟨ih.1, ih.2.1, fun h => ih.2.2 (by omega)⟩
theorem Elts.at_ : ∀ {cs : List Value} {zs : List Int}, Elts W p q cs zs → ∀ j, j < zs.length → ∃ n A c l, cs[2 * j]? = some (.bool n) ∧ cs[2 * j + 1]? = some (.slice A (List.length l) c) ∧ IV W n A c l (zs.getD j 0) ∧ Off A l p ∧ Off A l q
 | [], [], _, j, hj => by simp at hj
 | u :: v :: r, z :: zs, h, 0, _ => by
  obtain ⟨⟨n, A, c, l, rfl, rfl, hi⟩, _⟩ := h
  exact ⟨n, A, c, l, rfl, rfl, hi⟩
 | u :: v :: r, z :: zs, h, j + 1, hj => by
  obtain ⟨n, A, c, l, h1, h2, hi⟩ := Elts.at_ h.2 j (by simpa using hj)
  refine ⟨n, A, c, l, ?_, ?_, hi⟩
  ·rw [show 2 * (j + 1) = 2 * j + 1 + 1 by omega]; simpa using h1
  ·rw [show 2 * (j + 1) + 1 = 2 * j + 1 + 1 + 1 by omega]; simpa using h2
 | [], _ :: _, h, _, _ => h.elim
 | [_], _, h, _, _ => by cases h
 | _ :: _ :: _, [], h, _, _ => h.elim
theorem Elts.swap {n m : Bool} {A B : Option Addr} {i c j d : Nat} (h0 : Box2 W r (.bool n) (.slice A i c)) (h1 : Box2 W t (.bool m) (.slice B j d)) : ∀ {cs : List Value} {zs : List Int}, Elts W p q cs zs → Elts W r t cs zs
 | [], [], _ => trivial
 | u :: v :: s, z :: zs, h => by
  obtain ⟨⟨n, A, c, l, e1, e2, hi, o1, o2⟩, h⟩ := h
  exact ⟨⟨n, A, c, l, e1, e2, hi, ws_off_box h0 (by simp) hi.ws, ws_off_box h1 (by simp) hi.ws⟩, Elts.swap h0 h1 h⟩
 | [], _ :: _, h => h.elim
 | [_], _, h => by cases h
 | _ :: _ :: _, [], h => h.elim
def bkw (zs : List Int) (k : Nat) : List (Nat × Int) := (List.range k).reverse.map fun i => (i, zs.getD i 0)
theorem bkw_succ (zs : List Int) (k : Nat) : bkw zs (k + 1) = (k, zs.getD k 0) :: bkw zs k := by
 unfold bkw
 rw [List.range_succ, List.reverse_append]
 rfl
def encP (r t : Nat) (x : Nat × Int) (vs : Array Value) (W : World) : Prop := ∃ n A c l, vs = #[.int .i64 (x.1 : Int), .agg #[.bool n, .slice A l.length c]] ∧ IV W n A c l x.2 ∧ Off A l r ∧ Off A l t
def KpR (r t : Nat) (A B : World) : Prop := A.heap.size ≤ B.heap.size ∧ ∀ i o, A.heap[i]? = some o → i ≠ r → i ≠ t → (∀ st, o ≠ .loop st) → B.heap[i]? = some o
theorem KpR.trans {A B C : World} (h : KpR r t A B) (k : KpR r t B C) : KpR r t A C := ⟨Nat.le_trans h.1 k.1, fun i o ho h1 h2 h3 => k.2 i o (h.2 i o ho h1 h2 h3) h1 h2 h3⟩
theorem KpR.on2 (h : On2 r t A B) : KpR r t A B := ⟨h.2.2.2.1, fun i o ho h1 h2 _ => (h.2.2.2.2 i (Array.getElem?_eq_some_iff.1 ho).1 h1 h2).trans ho⟩
theorem KpR.loop {r t l : Nat} {o : Obj} {st : Loop} (h : W.heap[l]? = some (.loop st)) : KpR r t W (W.putObj l o) := by
 refine ⟨by simp [World.putObj], fun i u hu _ _ h3 => ?_⟩
 have hne : i ≠ l := by
  rintro rfl
  rw [h] at hu
  injection hu with hu
  exact h3 st hu.symm
 exact (World.putObj_heap_other hne).trans hu
theorem KpR.ws {W W' : World} (k : KpR r t W W') (A : Option Addr) (l : List Nat) (h : WS W A l) (o1 : Off A l r) (o2 : Off A l t) : WS W' A l := by
 refine ⟨h.1, fun hl => ?_⟩
 obtain ⟨b, off, e, hlt, hc⟩ := h.2 hl
 have h0 := hc 0 (List.length_pos_iff.2 hl)
 obtain ⟨o, ho⟩ : ∃ o, W.heap[b]? = some o := ⟨_, Array.getElem?_eq_getElem hlt⟩
 have hn : ∀ st, o ≠ .loop st := by
  rintro st rfl
  unfold World.cell? at h0
  rw [ho] at h0
  simp at h0
 have h2 := k.2 b o ho (o1 hl b off e) (o2 hl b off e) hn
 exact ⟨b, off, e, Nat.lt_of_lt_of_le hlt k.1, fun j hj => (World.cell?_of_block (h2.trans ho.symm)).trans (hc j hj)⟩
theorem backward_gives (n : Nat) (s r t g cap : Nat) (hsr : s ≠ r) (hst : s ≠ t) (hgr : g ≠ r) (hgt : g ≠ t) (W : World) {zs : List Int} {cs : List Value} (hk : zs.length ≤ 1000000) (x0 : VBox W s (.slice (some ⟨g, 0, none⟩) zs.length cap))
  {cur : Array Value} (hc : ∀ (j : Nat) (u : Value), cs[j]? = some u → cur[j]? = some u) (hg : W.heap[g]? = some (.cells cur 24 (0, 0))) (he : Elts W r t cs zs) :
  GivesAllM Fence.wide n Tryz.prog 183 #[.pointer (some ⟨s, 0, none⟩)] (encP r t) (fun A B => Below A.heap.size A B) (fun _ A B => KpR r t A B) (bkw zs zs.length) W := fun lp J hJ hY h0 => by
 refine callsIn_wide.2 ?_
 have HY := Hi hY
 have HJ := Hi hJ
 have HK := Hi hk
 have HCC := Hi hc
 have H0 : Hid (VBox W s (.slice (some ⟨g, 0, none⟩) zs.length cap) ∧ W.heap[g]? = some (.cells cur 24 (0, 0)) ∧ Elts W r t cs zs ∧ J [] W.heap.size W) := Hi ⟨x0, hg, he, h0⟩
 have cx := x0.cell
 clear hY hJ h0 hc hg he x0
 go_enter Tryz.func183, Tryz.ntmps183
 go_wp2_with fail
 go_loopw [3] (fun iv wr => ∃ (j m : Nat) (pre : List (Nat × Int)), iv = .int .i64 ((j : Int) - 1) ∧ j ≤ zs.length ∧ Hid (bkw zs zs.length = pre ++ bkw zs j) ∧ Hid (VBox wr s (.slice (some ⟨g, 0, none⟩) zs.length cap) ∧ wr.heap[g]? = some (.cells cur 24 (0, 0)) ∧ Elts wr r t cs zs ∧ J pre m wr)) (fun iv wr => (intOf iv + 1).toNat)
 case atStart => exact ⟨zs.length, _, [], by simp, Nat.le_refl _, Hi rfl, H0⟩
 case round =>
  obtain ⟨j, m, pre, rfl, hj, HX, HR⟩ := hrel
  clear H0 cx
  obtain ⟨wo, hwo⟩ : ∃ wo, wo = wr := ⟨_, rfl⟩
  rw [← hwo] at HR ⊢
  clear hwo wr
  by_cases hj0 : j = 0
  ·have hlt : ¬ (0 : Int) ≤ (j : Int) - 1 := by omega
   go_wp2_with fail
   go_end0
   refine ⟨⟨_, rfl⟩, m, ?_⟩
   have h1 := HX.out
   rw [hj0, show bkw zs 0 = [] from rfl, List.append_nil] at h1
   rw [h1]
   exact HR.out.2.2.2
  ·obtain ⟨i, rfl⟩ : ∃ i, j = i + 1 := ⟨j - 1, by omega⟩
   have hlt : (0 : Int) ≤ ((i + 1 : Nat) : Int) - 1 := by omega
   have hii : ((i + 1 : Nat) : Int) - 1 = (i : Int) := by omega
   rw [hii] at hlt
   rw [hii]
   clear hii
   obtain ⟨n1, A1, c1, l1, e1, e2, hi, o1, o2⟩ := HR.out.2.2.1.at_ i (by omega)
   have cx := HR.out.1.cell
   have cg0 := (cell_of_row wo g (2 * i) cur _ (0, 0) HR.out.2.1).trans (HCC.out _ _ e1)
   have cg1 := (cell_of_row wo g (2 * i + 1) cur _ (0, 0) HR.out.2.1).trans (HCC.out _ _ e2)
   rw [Nat.mul_comm] at cg0 cg1
   have hil : (i : Int) < (zs.length : Int) := by omega
   have hi0 : ¬ (i : Int) < 0 := by omega
   have hx := HX.out
   rw [bkw_succ] at hx
   obtain ⟨fn_, tmps_, assign_, body_, hy_, hR_⟩ := HY.out pre (i, zs.getD i 0) _ hx m wo _ HR.out.2.2.2 ⟨n1, A1, c1, l1, rfl, hi, o1, o2⟩
   dsimp only at hy_
   have HXX := Hi hx
   clear hx
   go_upto_region 3 with fail
   refine (wpIn_wide (n := n)).1 ?_
   gi_wp2
   refine ⟨fun h => by simp [Fence.wide] at h, hR_.mono ?_⟩
   rintro e W2 ⟨rfl, hJ1, hk1⟩
   have HF : Hid (VBox W2 s (.slice (some ⟨g, 0, none⟩) zs.length cap) ∧ W2.heap[g]? = some (.cells cur 24 (0, 0)) ∧ Elts W2 r t cs zs ∧ J (pre ++ [(i, zs.getD i 0)]) W2.heap.size W2) :=
    Hi ⟨hk1.2 s _ HR.out.1 hsr hst (fun st e => by cases e), hk1.2 g _ HR.out.2.1 hgr hgt (fun st e => by cases e), HR.out.2.2.1.map hk1.ws, hJ1⟩
   clear hy_ hR_ hJ1 hk1 cx cg0 cg1
   gi_wp2
   go_wp2_with fail
   go_roundw
   case rel =>
    exact ⟨i, W2.heap.size, pre ++ [(i, zs.getD i 0)], by go_num, by omega, Hi (by rw [HXX.out]; simp), HF⟩
   case measure => simp [intOf]
theorem Backward_any (w : World) (A : Option Addr) (i c : Nat) :
  Calls Tryz.prog 158 #[.slice A i c] w fun e w' => e = .returned (.func (.func 183) #[] #[.pointer (some ⟨w.heap.size, 0, none⟩)]) ∧ VBox w' w.heap.size (.slice A i c) ∧ Below w.heap.size w w' := by
 have hmf : ∀ (fn : Fn) (first cap : Array Value) (w : World), (Instr.makeFunc fn first cap).run Tryz.prog w = .ok (.func fn first cap) w := fun _ _ _ _ => rfl
 go_enter Tryz.func158, Tryz.ntmps158
 go_wp2
 go_ret
 exact ⟨rfl, VBox.new _ _, ba (b0 _) _⟩
open Go.RowKit Go.Shelf
variable {A w : World} {lb m r x2 : Nat}
attribute [local go_sem] Oper.semAt_some
theorem iv_put {W : World} {n : Bool} {A : Option Addr} {c : Nat} {l : List Nat} {z : Int} {b : Nat} (o : Obj) (h : IV W n A c l z) (hd : W.heap[b]? = some (.deferred (some []))) : IV (W.putObj b o) n A c l z := by
 refine ⟨h.cap, h.ws.only (only_putObj W b o) fun h0 b' off e => ?_, h.can, h.val, h.len⟩
 obtain ⟨b2, off2, e2, _, hc⟩ := h.ws.2 h0
 rw [e] at e2
 injection e2 with e2
 injection e2 with e1 _
 subst e1
 rintro rfl
 have h1 := hc 0 (List.length_pos_iff.2 h0)
 simp [World.cell?, hd] at h1
def BI (w : World) (r x2 lb : Nat) (zs : List Int) (pre : List (Nat × Int)) (m : Nat) (W : World) : Prop :=
 ∃ (j : Nat) (n : Bool) (A : Option Addr) (c : Nat) (l : List Nat) (n' : Bool) (A' : Option Addr) (c' : Nat) (l' : List Nat), j ≤ zs.length ∧ Hid (bkw zs zs.length = pre ++ bkw zs j) ∧ Box2 W r (.bool n) (.slice A l.length c) ∧ Box2 W (r + 1) (.bool n') (.slice A' l'.length c') ∧
  Hid (IV W n A c l (tmade (zs.drop j)).1 ∧ IV W n' A' c' l' (tmade (zs.drop j)).2) ∧ Box4 W x2 (.bool false) (.slice none 0 0) (.bool false) (.slice none 0 0) ∧
  Cells W (r + 1 + 1) 127 #[.func (.func 155) #[] #[.pointer (some ⟨r, 0, none⟩), .pointer (some ⟨r + 1, 0, none⟩)]] ∧ Hid (Below w.heap.size w W) ∧ lb < m ∧ m ≤ W.heap.size
theorem BI.below {zs : List Int} {pre : List (Nat × Int)} {A B : World} (h : BI w r x2 lb zs pre m A) (hb : Below A.heap.size A B) : BI w r x2 lb zs pre m B := by
 obtain ⟨j, n, A1, c, l, n', A', c', l', hj, hx, x0, x1, hi, h2, hf, hw, hl, hm⟩ := h
 exact ⟨j, n, A1, c, l, n', A', c', l', hj, hx, x0.below hb, x1.below hb, Hi ⟨hi.out.1.below hb, hi.out.2.below hb⟩, h2.below hb, hf.below hb, Hi (bt hw.out hb), hl, Nat.le_trans hm hb.size⟩
theorem BI.loop {zs : List Int} {pre : List (Nat × Int)} {o : Obj} {st : Loop} (h : BI w r x2 lb zs pre m A) (hst : A.heap[lb]? = some (.loop st)) (h1 : r < lb) (h2 : r + 1 < lb) (h3 : r + 1 + 1 < lb) (h4 : x2 < lb ∧ w.heap.size ≤ lb) : BI w r x2 lb zs pre m (A.putObj lb o) := by
 obtain ⟨j, n, A1, c, l, n', A', c', l', hj, hx, x0, x1, hi, hb2, hf, hw, hl, hm⟩ := h
 have hk := KpT.loop (m := m) (o := o) hl hst
 have hO := only_putObj A lb o
 exact ⟨j, n, A1, c, l, n', A', c', l', hj, hx, x0.only hO (by omega), x1.only hO (by omega), Hi ⟨hk.iv hi.out.1, hk.iv hi.out.2⟩, Cells.only hb2 hO (by omega), hf.only hO (by omega), Hi (bo hw.out hO h4.2), hl, Nat.le_trans hm hk.1⟩
theorem simplest_iv {n1 n2 n3 n4 : Bool} {A1 A2 A3 A4 : Option Addr} {c1 c2 c3 c4 : Nat} {l1 l2 l3 l4 : List Nat} {a b c d : Int}
  (hP : Pos a b c d) (hL : Lt 10 a ∧ Lt 10 b ∧ Lt 10 c ∧ Lt 10 d) (i1 : IV w n1 A1 c1 l1 a) (i2 : IV w n2 A2 c2 l2 b) (i3 : IV w n3 A3 c3 l3 c) (i4 : IV w n4 A4 c4 l4 d) :
  Calls Tryz.prog 119 #[.agg #[.bool n1, .slice A1 l1.length c1, .bool n2, .slice A2 l2.length c2], .agg #[.bool n3, .slice A3 l3.length c3, .bool n4, .slice A4 l4.length c4]] w fun e w' => ∃ x y, Simp a b c d x y ∧ RIQ w x y e w' := by
 obtain ⟨xs, hT⟩ := terms_ex _ a b c d hP (Nat.le_refl _)
 have HP := Hi hP
 have HT := Hi hT
 have HL := Hi hL
 have HI := Hi (And.intro i1 (And.intro i2 (And.intro i3 i4)))
 clear hP hT hL i1 i2 i3 i4
 have hmf : ∀ (fn : Fn) (first cap : Array Value) (w : World), (Instr.makeFunc fn first cap).run Tryz.prog w = .ok (.func fn first cap) w := fun _ _ _ _ => rfl
 obtain ⟨W1, hW1, hw1, x0, x1, x2⟩ := hdQQq w n1 A1 c1 l1 n2 A2 c2 l2 n3 A3 c3 l3 n4 A4 c4 l4
 refine (callsIn_wide (n := 5)).1 ?_
 refine callsIn_of_wp_marks Tryz.func119 rfl trivial ?_ rfl
 simp only [Tryz.ntmps119, List.size_toArray, List.length_cons, List.length_nil, Nat.reduceAdd, Nat.reduceSub, Array.replicate_succ, Array.replicate_zero, List.push_toArray, List.append_toArray, List.nil_append, List.cons_append]
 refine wpIn_wide.2 ?_
 go_wp2_with fail
 rw [← hW1]
 clear hW1
 refine (Of_iv _ 1 (by decide) (by decide)).mono ?_
 rintro e w2 ⟨n5, A5, c5, l5, rfl, i5, hb⟩
 replace x0 := x0.below hb
 replace x1 := x1.below hb
 replace x2 := x2.below hb
 have hw1_ := bt hw1 hb
 clear hb hw1
 have J5 := Hi i5
 have hx2l := x2.lt
 clear i5
 go_upto_region 3 with fail
 obtain ⟨w3, hw⟩ : ∃ W, W = ((w2.alloc (.cells #[.bool n5, .slice A5 l5.length c5] 24)).alloc (.cells #[.bool false, .slice none 0 0] 24)).alloc (.cells #[(.func (.func 155) #[] #[.pointer (some ⟨w2.heap.size, 0, none⟩), .pointer (some ⟨w2.heap.size + 1, 0, none⟩)])] 127) := ⟨_, rfl⟩
 have xn : Box2 w3 w2.heap.size (.bool n5) (.slice A5 l5.length c5) := by rw [hw]; exact ((Box2.new w2 _ _).alloc _).alloc _
 have xd : Box2 w3 (w2.heap.size + 1) (.bool false) (.slice none 0 0) := by
  rw [hw]
  have h := (Box2.new (w2.alloc (.cells #[.bool n5, .slice A5 l5.length c5] 24)) (.bool false) (.slice none 0 0)).alloc (.cells #[(.func (.func 155) #[] #[.pointer (some ⟨w2.heap.size, 0, none⟩), .pointer (some ⟨w2.heap.size + 1, 0, none⟩)])] 127)
  rw [World.size_alloc] at h
  exact h
 have xf : Cells w3 (w2.heap.size + 1 + 1) 127 #[(.func (.func 155) #[] #[.pointer (some ⟨w2.heap.size, 0, none⟩), .pointer (some ⟨w2.heap.size + 1, 0, none⟩)])] := by
  rw [hw]
  have h := Cells.new ((w2.alloc (.cells #[.bool n5, .slice A5 l5.length c5] 24)).alloc (.cells #[.bool false, .slice none 0 0] 24)) 127 #[(.func (.func 155) #[] #[.pointer (some ⟨w2.heap.size, 0, none⟩), .pointer (some ⟨w2.heap.size + 1, 0, none⟩)])]
  rw [World.size_alloc, World.size_alloc] at h
  exact h
 have hb : Below w2.heap.size w2 w3 := by rw [hw]; exact ba (ba (ba (b0 _) _) _) _
 have hs3 : w3.heap.size = w2.heap.size + 3 := by rw [hw]; simp
 rw [← hw]
 clear hw
 have HS3 := Hi hs3
 clear hs3
 replace x0 := x0.below hb
 replace x1 := x1.below hb
 replace x2 := x2.below hb
 replace J5 := Hi (J5.out.below hb)
 have hw2_ := bt hw1_ hb
 clear hb hw1_
 refine g01 ?_
 intros
 have Gx0 := Hi x0
 have Gx1 := Hi x1
 have Gx2 := Hi x2
 have Gxn := Hi xn
 have Gxd := Hi xd
 have Gf := Hi xf
 have GJ := Hi J5
 have HW3 := Hi hw2_
 refine (terms_any _ n1 n2 n3 n4 A1 A2 A3 A4 c1 c2 c3 c4 l1.length l2.length l3.length l4.length).mono ?_
 rintro e w4 ⟨rfl, xp, xq, hb⟩
 have hb4_ := hb
 replace x0 := x0.below hb
 replace x1 := x1.below hb
 replace x2 := x2.below hb
 replace xn := xn.below hb
 replace xd := xd.below hb
 replace J5 := Hi (J5.out.below hb)
 have hw3_ := bt hw2_ hb
 clear hb hw2_
 go_wp2_with fail
 have HI4 : Hid (IV w4 n1 A1 c1 l1 a ∧ IV w4 n2 A2 c2 l2 b ∧ IV w4 n3 A3 c3 l3 c ∧ IV w4 n4 A4 c4 l4 d) := Hi ⟨HI.out.1.below hw3_, HI.out.2.1.below hw3_, HI.out.2.2.1.below hw3_, HI.out.2.2.2.below hw3_⟩
 have hs4 := xq.lt
 refine (Collect_terms w3 w4 w3.heap.size (w3.heap.size + 1) (by omega) (Nat.le_refl _) (by omega) hb4_ HP.out HT.out HL.out HI4.out.1 HI4.out.2.1 HI4.out.2.2.1 HI4.out.2.2.2 xp xq).mono ?_
 rintro e w5 ⟨v, cs, rfl, hr, he, hb5⟩
 clear x0 x1 x2 xn xd xp xq J5 hw3_
 have HW5 := bt HW3.out hb5
 have xn := Gxn.out.below hb5
 have xd := Gxd.out.below hb5
 have HE := Hi (Elts.swap xn xd he)
 clear he
 obtain ⟨gg, cap, cur, rfl, hgb, hgg, hnc, hcm, hcs, htk⟩ : ∃ gg cap cur, v = .slice (some ⟨gg, 0, none⟩) xs.length cap ∧ w4.heap.size ≤ gg ∧ w5.heap[gg]? = some (.cells cur 24 (0, 0)) ∧ xs.length ≤ cap ∧ cap ≤ maxLen ∧ cur.size = cap * 2 ∧ cur.toList.take (xs.length * 2) = cs := by
  rcases hr.1.2 with ⟨_, h0⟩ | h
  ·have h1 := List.eq_nil_of_length_eq_zero h0
   have h2 := HT.out
   rw [h1] at h2
   exact h2.elim
  ·exact h
 clear hr
 go_wp2_with fail
 refine (Backward_any w5 _ _ _).mono ?_
 rintro e w6 ⟨rfl, xs6, hb6⟩
 go_wp2_with fail
 have HS6 := Hi hb6.size
 have HL6 := Hi xs6.lt
 have xn6 := xn.below hb6
 have xd6 := xd.below hb6
 have xf6 := (Gf.out.below hb5).below hb6
 have x26 := (Gx2.out.below hb5).below hb6
 have HW6 := Hi (bt HW5 hb6)
 have HE6 := Hi (HE.out.map fun A l h _ _ => h.below hb6)
 have HG6 := Hi ((hb6.block gg (Array.getElem?_eq_some_iff.1 hgg).1).trans hgg)
 have HN6 := Hi ((GJ.out.below hb5).below hb6)
 have hnl := xn.lt
 have hs34 := hb4_.size
 have HK6 : Hid (xs.length ≤ 1000000) := Hi (by
  have h1 := terms_len 320 xs _ _ _ _ HP.out HT.out (by have h2 := HL.out.2.2.2; unfold Lt BB at h2; omega)
  omega)
 have HB := Hi (And.intro hs34 (And.intro hs4 (And.intro hgb (And.intro HS3.out (And.intro HL6.out (And.intro (Array.getElem?_eq_some_iff.1 hgg).1 (And.intro hnl (And.intro hb5.size hx2l))))))))
 clear hs4 hgb hgg hnl hs34 hx2l xn xd HE HS6 hb6 hb5 hb4_
 refine wpIn_wide.1 (?_ : Code.wpIn Fence.wide 5 _ _ _ _ _)
 refine range_allM rfl (by decide) (gf := 183) (lb := #[.pointer (some ⟨w5.heap.size, 0, none⟩)]) rfl trivial (enters_of Tryz.func183 (by kernel_rfl) rfl)
  (encs := encP w2.heap.size (w2.heap.size + 1)) (Tn := fun A B => Below A.heap.size A B) (Kp := fun _ A B => KpR w2.heap.size (w2.heap.size + 1) A B) (xs := bkw xs xs.length)
  (fun W hW _ => backward_gives 4 w5.heap.size w2.heap.size (w2.heap.size + 1) gg cap ?ne1 ?ne2 ?ne3 ?ne4 W HK6.out (xs6.below hW) (cur := cur) ?hc ((hW.block gg ?hlt).trans HG6.out) (HE6.out.map fun A l h _ _ => h.below hW))
  (fun x vs W h => by obtain ⟨_, _, _, _, rfl, _⟩ := h; rfl)
  (fun x vs W o st h hl => by obtain ⟨n, A, c, l, rfl, hi, o1, o2⟩ := h; exact ⟨n, A, c, l, rfl, (KpT.loop (m := w6.heap.size + 2) (by omega) hl).iv hi, o1, o2⟩)
  (fun A B hlt hO => ⟨hO.block _ (by omega), hO.block _ (by omega)⟩)
  (fun h k => h.trans k) (fun m W o st hm hl => KpR.loop hl)
  (BI w w2.heap.size (w.heap.size + 1 + 1) (w6.heap.size + 1) xs)
  (fun s m A B h hO => h.below hO)
  (fun s m A h => ?hIm)
  (fun s m A o st h hl => h.loop hl ?l1 ?l2 ?l3 ?l4)
  (fun W hb hs => ?h0)
  (fun vs W a V => ∃ (i : Int) (n : Bool) (A : Option Addr) (j c : Nat), vs = #[.int .i64 i, .agg #[.bool n, .slice A j c]] ∧ Box2 V W.heap.size (.bool n) (.slice A j c) ∧ a = { tmps := #[.agg #[.bool n1, .slice A1 l1.length c1, .bool n2, .slice A2 l2.length c2], .agg #[.bool n3, .slice A3 l3.length c3, .bool n4, .slice A4 l4.length c4], .pointer (some ⟨w.heap.size, 0, none⟩), .pointer (some ⟨w.heap.size + 1, 0, none⟩), .pointer (some ⟨w.heap.size + 1 + 1, 0, none⟩), .pointer (some ⟨w2.heap.size, 0, none⟩), .pointer (some ⟨w2.heap.size + 1, 0, none⟩), .pointer (some ⟨w2.heap.size + 1 + 1, 0, none⟩), .slice (some ⟨gg, 0, none⟩) xs.length cap, undef, .pointer (some ⟨W.heap.size, 0, none⟩), .agg #[.bool n5, .slice A5 l5.length c5], .agg #[.bool false, .slice none 0 0], .func (.func 155) #[] #[.pointer (some ⟨w2.heap.size, 0, none⟩), .pointer (some ⟨w2.heap.size + 1, 0, none⟩)], .agg #[.bool n1, .slice A1 l1.length c1, .bool n2, .slice A2 l2.length c2], .agg #[.bool n3, .slice A3 l3.length c3, .bool n4, .slice A4 l4.length c4], .func (.func 182) #[] #[.pointer (some ⟨w3.heap.size, 0, none⟩), .pointer (some ⟨w3.heap.size + 1, 0, none⟩)], .slice (some ⟨gg, 0, none⟩) xs.length cap, .slice (some ⟨gg, 0, none⟩) xs.length cap, .func (.func 183) #[] #[.pointer (some ⟨w5.heap.size, 0, none⟩)], .int .i64 i, .agg #[.bool n, .slice A j c], undef, undef, undef, undef, undef, undef], defers := [] })
  (fun s m A B h hb => h.below hb) (fun x vs A B h hb => by obtain ⟨n, A, c, l, rfl, hi, o1, o2⟩ := h; exact ⟨n, A, c, l, rfl, hi.below hb, o1, o2⟩)
  (fun m A B hb => KpR.on2 (On2.below hb))
  (fun vs W a V o st h hl => ?hAs) ?assign ?body ?done
 case ne1 => have hB := HB.out; omega
 case ne2 => have hB := HB.out; omega
 case ne3 => have hB := HB.out; omega
 case ne4 => have hB := HB.out; omega
 case hc =>
  intro j u hj
  rw [← htk, List.getElem?_take] at hj
  split at hj
  ·simpa using hj
  ·cases hj
 case hlt => have hB := HB.out; omega
 case hIm =>
  obtain ⟨j, n, A1, c, l, n', A', c', l', hj, hx, x0, x1, hi, h2, hf, hw, hl, hm⟩ := h
  exact ⟨hl, hm⟩
 case l1 => have hB := HB.out; omega
 case l2 => have hB := HB.out; omega
 case l3 => have hB := HB.out; omega
 case l4 => have hB := HB.out; omega
 case h0 => exact ⟨xs.length, n5, A5, c5, l5, false, none, 0, [], Nat.le_refl _, Hi rfl, xn6.below hb, xd6.below hb, Hi ⟨by rw [List.drop_length]; exact HN6.out.below hb, by rw [List.drop_length]; exact iv0 _⟩, x26.below hb, xf6.below hb, Hi (bt HW6.out hb), by omega, by omega⟩
 case hAs =>
  obtain ⟨i, n, A, j, c, rfl, hbx, rfl⟩ := h
  refine ⟨i, n, A, j, c, rfl, ?_, rfl⟩
  exact mfda18
 case assign =>
  rintro l x vs W K ⟨n, A, c, l2, rfl, hi, o1, o2⟩ hlt hK
  gi_wp2
  exact hK _ _ (ba (b0 _) _) ⟨_, n, A, _, c, rfl, Box2.new _ _ _, rfl⟩
 case body =>
  rintro lq pre x suf hxs m W V a₁ vs ⟨j, n6, A6, c6, l6, n7, A7, c7, l7, hj, hx, y0, y1, hi, hx2, hf, hw, hl, hm⟩ ⟨n, A, cc, l2, rfl, hz, o1, o2⟩ ⟨i', n', A', j', c', e1, hbx, rfl⟩ hlt hmW hWV
  simp only [Array.mk.injEq, List.cons.injEq, Value.agg.injEq, Value.bool.injEq, Value.slice.injEq, Value.int.injEq, and_true, true_and] at e1
  obtain ⟨rfl, rfl, rfl, rfl, rfl⟩ := e1
  obtain ⟨i, rfl⟩ : ∃ i, j = i + 1 := by
   cases j with
   | zero =>
    have h1 := hx.out
    rw [hxs, show bkw xs 0 = [] from rfl, List.append_nil] at h1
    have h2 := congrArg List.length h1
    simp at h2
   | succ i => exact ⟨i, rfl⟩
  have hx1 := hx.out
  rw [hxs, bkw_succ] at hx1
  have hx2' := List.append_cancel_left hx1
  injection hx2' with hxe hxs2
  subst hxe
  have hdrop : xs.drop i = xs.getD i 0 :: xs.drop (i + 1) := by
   rw [List.drop_eq_getElem_cons (show i < xs.length by omega), List.getD_eq_getElem?_getD, List.getElem?_eq_getElem (show i < xs.length by omega)]
   rfl
  have hmd : tmade (xs.drop i) = (xs.getD i 0 * (tmade (xs.drop (i + 1))).1 + (tmade (xs.drop (i + 1))).2, (tmade (xs.drop (i + 1))).1) := by rw [hdrop]; rfl
  have hb1 := terms_lt xs _ _ _ _ HP.out HT.out HL.out (i + 1)
  have hb2 := (terms_lt xs _ _ _ _ HP.out HT.out HL.out i).2.2 (by omega)
  have HZ := Hi hz
  have HMD := Hi hmd
  have HXE : Hid (bkw xs xs.length = pre ++ (i, xs.getD i 0) :: bkw xs i) := Hi (by rw [hx.out, bkw_succ])
  have HMM := Hi (And.intro hmW (And.intro hWV (And.intro hlt (And.intro hl hm))))
  clear hxs hx hx1 hxs2 hdrop hmd hz hmW hWV hlt hl hm
  have L12 := Hi (lt_mul hb2 hb1.1)
  have L13 := Hi (lt_addS L12.out (lt_le hb1.2.1 (show 10 ≤ 20 by decide)))
  clear hb1 hb2
  obtain ⟨cx0, cx1⟩ := hbx.cs
  have cf := Cells.at_ hf 0
  simp at cf
  gi_wp2
  refine ⟨trivial, (CallsIn.inRound lq (callsIn_wide.2 (back_iv (by omega) HZ.out hi.out.1 hi.out.2 y0 y1 L12.out L13.out))).mono ?_⟩
  rintro e W2 ⟨rfl, ⟨n8, A8, c8, l8, z0, i0⟩, ⟨n9, A9, c9, l9, z1, i1⟩, hO⟩
  gi_wp2
  have hMM := HMM.out
  have hB := HB.out
  have hOs := hO.2.2.2.1
  exact ⟨⟨hO.2.2.2.2 _ (by omega) (by omega) (by omega), hO.2.2.2.2 _ (by omega) (by omega) (by omega)⟩, KpR.on2 hO, i, n8, A8, c8, l8, n9, A9, c9, l9, by omega, Hi (by rw [HXE.out]; simp), z0, z1, Hi (by rw [HMD.out]; exact ⟨i0, i1⟩), (hO.2.2.2.2 _ (Box4.lt hx2) (by omega) (by omega)).trans hx2, (hO.2.2.2.2 _ (Cells.lt hf) (by omega) (by omega)).trans hf, Hi (On2.bt hw.out hO (by omega) (by omega)), by omega, Nat.le_refl _⟩
 case done =>
  rintro m W ⟨j, n6, A6, c6, l6, n7, A7, c7, l7, hj, hx, y0, y1, hi, hx2, hf, hw, hl, hm⟩ hD
  obtain rfl : j = 0 := by
   have h1 := congrArg List.length hx.out
   unfold bkw at h1
   simp at h1
   exact h1
  obtain ⟨c0, c1⟩ := y0.cs
  obtain ⟨c2, c3⟩ := y1.cs
  have f0 := hx2.free 0
  have f1 := hx2.free 1
  have f2 := hx2.free 2
  have f3 := hx2.free 3
  obtain ⟨r0, r1, r2, r3⟩ := hx2.cs
  gi_wp2
  go_wp2_with fail
  have hB := HB.out
  obtain ⟨W7, hW7⟩ : ∃ V, V = (((W.setCell ⟨w.heap.size + 1 + 1, 0, none⟩ (.bool n6)).setCell ⟨w.heap.size + 1 + 1, 1, none⟩ (.slice A6 l6.length c6)).setCell ⟨w.heap.size + 1 + 1, 2, none⟩ (.bool n7)).setCell ⟨w.heap.size + 1 + 1, 3, none⟩ (.slice A7 l7.length c7) := ⟨_, rfl⟩
  rw [← hW7]
  have o1 : Only (w.heap.size + 1 + 1) W W7 := by rw [hW7]; exact ((((only_refl (w.heap.size + 1 + 1) W).set_ (.inl rfl) _).set_ (.inl rfl) _).set_ (.inl rfl) _).set_ (.inl rfl) _
  have z2 : Box4 W7 (w.heap.size + 1 + 1) (.bool n6) (.slice A6 l6.length c6) (.bool n7) (.slice A7 l7.length c7) := by rw [hW7]; exact hx2.stored _ _ _ _
  have hi' := hi.out
  rw [List.drop_zero] at hi'
  obtain ⟨X, hX⟩ : ∃ X, X = (tmade xs).1 := ⟨_, rfl⟩
  obtain ⟨Y, hY⟩ : ∃ Y, Y = (tmade xs).2 := ⟨_, rfl⟩
  rw [← hX, ← hY] at hi'
  have hS := simp_of _ _ _ _ _ HP.out HT.out
  rw [← hX, ← hY] at hS
  clear hX hY
  have j6 : IV W7 n6 A6 c6 l6 X := by rw [hW7]; exact hi'.1.four hx2 _ _ _ _
  have j7 : IV W7 n7 A7 c7 l7 Y := by rw [hW7]; exact hi'.2.four hx2 _ _ _ _
  have hD7 : W7.heap[w6.heap.size]? = some (.deferred (some [])) := (o1.block _ (Array.getElem?_eq_some_iff.1 hD).1 (fun e => by injection e; omega)).trans hD
  have hb7 : Below w.heap.size w W7 := bo hw.out o1 (by omega)
  clear hW7 c0 c1 c2 c3 f0 f1 f2 f3 r0 r1 r2 r3
  refine ⟨by simp, .inl ⟨_, _, rfl, run_takeDeferred hD7, ?_⟩⟩
  have hO := only_putObj W7 w6.heap.size (.deferred none)
  have z3 : Box4 (W7.putObj w6.heap.size (.deferred none)) (w.heap.size + 1 + 1) (.bool n6) (.slice A6 l6.length c6) (.bool n7) (.slice A7 l7.length c7) := Cells.only z2 hO (by omega)
  obtain ⟨q0, q1, q2, q3⟩ := z3.cs
  refine ⟨.agg #[.bool n6, .slice A6 l6.length c6, .bool n7, .slice A7 l7.length c7], by simp [results, Tryz.results119, go_sem, q0, q1, q2, q3], X, Y, hS, n6, A6, c6, l6, n7, A7, c7, l7, rfl, iv_put _ j6 hD7, iv_put _ j7 hD7, bo hb7 hO (by omega)⟩
open Go.RowKit Go.Shelf
theorem QSim_pos {w : World} {n m : Bool} {A B : Option Addr} {c d : Nat} {l k : List Nat} {x y : Int} (h : IV w n A c l x) (h2 : IV w m B d k y) {n' m' : Bool} {A' B' : Option Addr} {c' d' : Nat} {l' k' : List Nat} {u v : Int} (h3 : IV w n' A' c' l' u) (h4 : IV w m' B' d' k' v) (hc1 : Can x y) (hc2 : Can u v) (hL : Lt 10 x ∧ Lt 10 y ∧ Lt 10 u ∧ Lt 10 v) (hs : x * v ≤ u * y ∧ 0 < x) :
  Calls Tryz.prog 60 #[.agg #[.bool n, .slice A l.length c, .bool m, .slice B k.length d], .agg #[.bool n', .slice A' l'.length c', .bool m', .slice B' k'.length d']] w fun e w' => ∃ X Y, Simp x y u v X Y ∧ RQE w X Y 0 e w' := by
 have H1 := Hi h
 have H2 := Hi h2
 have H3 := Hi h3
 have H4 := Hi h4
 have HC1 := Hi hc1
 have HC2 := Hi hc2
 have HL := Hi hL
 have HS := Hi hs
 clear h h2 h3 h4 hc1 hc2 hL hs
 obtain ⟨W1, hW1, hw1, x0, x1, x2⟩ := hdQQq w n A c l m B d k n' A' c' l' m' B' d' k'
 go_enter Tryz.func60, Tryz.ntmps60
 go_wp2_with fail
 rw [← hW1]
 clear hW1
 obtain ⟨C00, C01, C02, C03⟩ := x0.cs
 go_wp2_with fail
 refine (sound_iv (H1.out.below hw1) (H2.out.below hw1) HC1.out).mono ?_
 rintro e w2 ⟨rfl, hb⟩
 clear C00 C01 C02 C03
 replace x0 := x0.below hb
 replace x1 := x1.below hb
 replace x2 := x2.below hb
 have hw1_ := bt hw1 hb
 clear hb hw1
 obtain ⟨C10, C11, C12, C13⟩ := x1.cs
 go_wp2_with fail
 refine (sound_iv (H3.out.below hw1_) (H4.out.below hw1_) HC2.out).mono ?_
 rintro e w3 ⟨rfl, hb⟩
 clear C10 C11 C12 C13
 replace x0 := x0.below hb
 replace x1 := x1.below hb
 replace x2 := x2.below hb
 have hw2_ := bt hw1_ hb
 clear hb hw1_
 obtain ⟨C00, C01, C02, C03⟩ := x0.cs
 obtain ⟨C10, C11, C12, C13⟩ := x1.cs
 go_wp2_with fail
 refine (QCmp_iv (H1.out.below hw2_) (H2.out.below hw2_) (H3.out.below hw2_) (H4.out.below hw2_) (lt_le HL.out.1 (by decide)) (lt_le HL.out.2.1 (by decide)) (lt_le HL.out.2.2.1 (by decide)) (lt_le HL.out.2.2.2 (by decide))).mono ?_
 rintro e w4 ⟨rfl, hb⟩
 clear C00 C01 C02 C03 C10 C11 C12 C13
 replace x0 := x0.below hb
 replace x1 := x1.below hb
 replace x2 := x2.below hb
 have hw3_ := bt hw2_ hb
 clear hb hw2_
 obtain ⟨cv, hcv, hcv0⟩ : ∃ z, cmpI (x * v) (u * y) = z ∧ ¬ 0 < z := ⟨_, rfl, by have := HS.out.1; unfold cmpI; (repeat' split) <;> omega⟩
 rw [hcv]
 clear hcv
 obtain ⟨C00, C01, C02, C03⟩ := x0.cs
 go_wp2_with fail
 refine (QSign_iv (H1.out.below hw3_) (H2.out.below hw3_)).mono ?_
 rintro e w5 ⟨rfl, hb⟩
 clear C00 C01 C02 C03
 replace x0 := x0.below hb
 replace x1 := x1.below hb
 replace x2 := x2.below hb
 have hw4_ := bt hw3_ hb
 clear hb hw3_
 have HC3 : Hid (0 < u) := Hi (by
  have h1 := Int.mul_pos HS.out.2 HC2.out.1
  rcases Int.lt_or_le 0 u with h2 | h2
  ·exact h2
  ·have h3 := Int.mul_le_mul_of_nonneg_right h2 (show 0 ≤ y by have := HC1.out.1; omega)
   have h4 := HS.out.1
   omega)
 rw [cmpI_pos HS.out.2]
 obtain ⟨C00, C01, C02, C03⟩ := x0.cs
 obtain ⟨C10, C11, C12, C13⟩ := x1.cs
 go_wp2_with fail
 refine (simplest_iv ⟨HS.out.2, HC1.out.1, HC3.out, HC2.out.1, HS.out.1⟩ HL.out (H1.out.below hw4_) (H2.out.below hw4_) (H3.out.below hw4_) (H4.out.below hw4_)).mono ?_
 rintro e w6 ⟨X, Y, hX, n3, A3, c3, l3, n4, A4, c4, l4, rfl, i3, i4, hb⟩
 clear C00 C01 C02 C03 C10 C11 C12 C13
 replace x0 := x0.below hb
 replace x1 := x1.below hb
 replace x2 := x2.below hb
 have hw5_ := bt hw4_ hb
 clear hb hw4_
 have J3 := Hi i3
 have J4 := Hi i4
 have HX := Hi hX
 clear i3 i4 hX
 skip
 obtain ⟨f0, f1, f2, f3⟩ := x2.fr
 obtain ⟨r0, r1, r2, r3⟩ := x2.cs
 go_wp2_with fail
 have z2 := x2.stored (.bool n3) (.slice A3 l3.length c3) (.bool n4) (.slice A4 l4.length c4)
 obtain ⟨k0, k1, k2, k3⟩ := z2.cs
 refine bodyPost_ret (v := .tuple #[.agg #[.bool n3, .slice A3 l3.length c3, .bool n4, .slice A4 l4.length c4], .int .i64 0]) (by simp [results, Tryz.results60, go_sem, k0, k1, k2, k3]) rfl ?_
 exact ⟨X, Y, HX.out, rqe_store hw5_ (by omega) x2 J3.out J4.out⟩
end Go.Proofs.YtgljdfblgpdaaaaGreatDoor
