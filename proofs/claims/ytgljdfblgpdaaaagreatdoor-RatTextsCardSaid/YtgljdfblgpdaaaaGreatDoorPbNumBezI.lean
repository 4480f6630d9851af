import Derived.Test.YtgljdfblgpdaaaaGreatDoorPbNumDivA
import Derived.Test.YtgljdfblgpdaaaaGreatDoorPbNumGuess
set_option linter.unusedSimpArgs false
set_option linter.unusedVariables false
set_option maxRecDepth 100000
set_option maxHeartbeats 4000000
namespace Go.Proofs.YtgljdfblgpdaaaaGreatDoor
open Go.RowKit
variable {A B X Y : Option Addr} {W a w w' : World} {a0 b0 ca cb cx cy p q s u v y0 : Nat} {e : Ending} {la lb lx ly : List Nat} {o o' odd : Bool}
theorem OwnS.only {l : List Nat} (h : OwnS a w A l) (hb : Only s w w') (ho : Off A l s) : OwnS a w' A l := fun h0 => by
 obtain ⟨g, L, e, hg, hk, ht, hl⟩ := h h0
 exact ⟨g, L, e, hg, hk.only hb (ho h0 g 0 e), ht, hl⟩
def EDivP (a w : World) (s : Nat) (B Y : Option Addr) (cb cy : Nat) (lb ly : List Nat) (r z : Nat) (o : Bool) (e : Ending) (w' : World) : Prop :=
 ∃ R cr lr Z cz lz, e = .returned (.tuple #[]) ∧ Cells w' s 125 #[.slice B lb.length cb, .slice R lr.length cr, .slice Y ly.length cy, .slice Z lz.length cz, .bool o] ∧
  OwnS a w' B lb ∧ lr.length ≤ cr ∧ OwnS w w' R lr ∧ Top lr ∧ val lr = r ∧ OwnS a w' Y ly ∧ lz.length ≤ cz ∧ OwnS w w' Z lz ∧ Dj R lr Z lz ∧ Top lz ∧ val lz = z ∧ Only s w w'
theorem eucDivide_any (a w : World) (s : Nat) (A B X Y : Option Addr) (ca cb cx cy : Nat) (la lb lx ly : List Nat) (o : Bool) (ha : la.length ≤ 400000) (hb : lb.length ≤ 400000) (hx : lx.length ≤ 400000) (hy : ly.length ≤ 400000) (h0 : 0 < lb.length)
  (ta : Top la) (tb : Top lb) (hcy : ly.length ≤ cy)
  (hs : Cells w s 125 #[.slice A la.length ca, .slice B lb.length cb, .slice X lx.length cx, .slice Y ly.length cy, .bool o])
  (oa : OwnS a w A la) (ob : OwnS a w B lb) (ox : OwnS a w X lx) (oy : OwnS a w Y ly) :
  Calls Tryz.prog 176 #[.pointer (some ⟨s, 0, none⟩)] w (EDivP a w s B Y cb cy lb ly (val la % val lb) (val lx + val la / val lb * val ly) (!o)) := by
 have q0 := hs.at_ 0
 have q1 := hs.at_ 1
 simp at q0 q1
 have oB := ws_off_cells ob.ws hs
 have oX := ws_off_cells ox.ws hs
 have oY := ws_off_cells oy.ws hs
 have hsl := hs.lt
 go_enter Tryz.func176, Tryz.ntmps176
 go_wp2_with fail
 go_region_held3 (fun W => W.cell? ⟨s, 0, none⟩ = some (.slice A la.length ca) ∧ W.cell? ⟨s, 1, none⟩ = some (.slice B lb.length cb))
  (first | exact ⟨q0, q1⟩ | exact ⟨v0, v1⟩)
  (first
   | (go_at_call 86; refine (divide_any w _ A B ca cb la lb (by omega) (by omega) h0 ta tb (oa.ws.below (bd (b0 _) _)) (ob.ws.below (bd (b0 _) _)) (bd (b0 _) _)).mono ?_; rintro e w1 ⟨Q, cq, lq, R, cr, lr, rfl, hcq, oQ, tQ, vQ, hcr, oR, tR, vR, hb1⟩; have HVQ := Hi vQ; have HVR := Hi vR; clear vQ vR; have hs1 := hs.below hb1; have v0 := hs1.at_ 0; have v1 := hs1.at_ 1; simp at v0 v1))
 have hlq : lq.length ≤ la.length := top_len tQ (by rw [HVQ.out]; exact Nat.lt_of_le_of_lt (Nat.div_le_self _ _) (val_lt oa.ws.1))
 have f0 := hs1.free 0
 have f1 := hs1.free 1
 have hsR : Off R lr s := oR.off_ hsl
 have hsQ : Off Q lq s := oQ.off_ hsl
 clear q0 q1
 go_wp2_with fail
 obtain ⟨W5, hW5⟩ : ∃ W, W = (w1.setCell ⟨s, 0, none⟩ (.slice B lb.length cb)).setCell ⟨s, 1, none⟩ (.slice R lr.length cr) := ⟨_, rfl⟩
 have hs5 : Cells W5 s 125 #[.slice B lb.length cb, .slice R lr.length cr, .slice X lx.length cx, .slice Y ly.length cy, .bool o] := by
  have h := (hs1.set_ 0 (.slice B lb.length cb)).set_ 1 (.slice R lr.length cr)
  simp only [Array.setIfInBounds, List.size_toArray, List.length_cons, List.length_nil] at h
  rw [hW5]; simpa using h
 have hO15 : Only s w1 W5 := by rw [hW5]; exact only2 (only_refl s w1) _ _
 have hO5 : Only s w W5 := (Only.mono (g := s) hb1).trans hO15
 rw [← hW5]
 clear hW5 v0 v1 f0 f1
 have oQ5 : OwnS w W5 Q lq := oQ.only hO15 hsQ
 have oR5 : OwnS w W5 R lr := oR.only hO15 hsR
 have oB5 : OwnS a W5 B lb := ob.only hO5 oB
 have oX5 : OwnS a W5 X lx := ox.only hO5 oX
 have oY5 : OwnS a W5 Y ly := oy.only hO5 oY
 have wX5 := oX5.ws
 have wY5 := oY5.ws
 have e2 := hs5.at_ 2
 have e3 := hs5.at_ 3
 simp at e2 e3
 have hs5l := hs5.lt
 refine wp_region_cut 17 1 (fun W => W.cell? ⟨s, 2, none⟩ = some (.slice X lx.length cx) ∧ W.cell? ⟨s, 3, none⟩ = some (.slice Y ly.length cy)) (by kernel_rfl) (by decide) (by kernel_rfl) (by kernel_rfl) rfl (by kernel_rfl) (by kernel_rfl) (by kernel_rfl) (fun _ _ _ h => h) (v := .pointer (some ⟨s, 0, none⟩)) (.inl ⟨by rfl, fun _ => by go_simp⟩) ⟨e2, e3⟩ (fun hHeld => ?_)
 simp only [List.take_succ_cons, List.take_zero, List.drop_succ_cons, List.drop_zero, Nat.reduceSub, Act.put, List.setIfInBounds_toArray, List.set_cons_zero, List.set_cons_succ]
 refine tk 0 ?_
 refine tk 2 ?_
 refine tk 3 ?_
 refine tk 4 ?_
 refine tk 5 ?_
 refine tk 6 ?_
 refine tk 7 ?_
 refine tk 8 ?_
 refine tk 9 ?_
 refine tk 10 ?_
 refine tk 11 ?_
 refine tk 12 ?_
 refine tk 13 ?_
 refine tk 14 ?_
 refine cl 15 fun K hK => ?_
 go_simp
 go_at_call 101
 refine (product_all W5 _ Q Y lq.length cq ly.length cy lq ly rfl rfl (by omega) hcq hcy (oQ5.ws.below (bd (b0 _) _)) (wY5.below (bd (b0 _) _)) (bd (b0 _) _)).mono ?_
 rintro e w6 ⟨A6, c6, l6, rfl, hc6, ho6, ht6, hv6, hb6⟩
 have hl6 : l6.length ≤ lq.length + ly.length := top_len ht6 (by rw [hv6, BB_add]; exact Nat.mul_lt_mul_of_lt_of_lt (val_lt oQ5.ws.1) (val_lt wY5.1))
 have HV6 := Hi hv6
 clear hv6
 have hs6 := hs5.below hb6
 have e6 := hs6.at_ 2
 have e7 := hs6.at_ 3
 simp at e6 e7
 have wX6 := wX5.below hb6
 refine hK.out _ _ ⟨e6, e7⟩ (fun hHeld => ?_)
 clear hK K
 try simp only [Act.put, List.setIfInBounds_toArray, List.set_cons_zero, List.set_cons_succ]
 refine cl 16 fun K hK => ?_
 go_simp
 go_at_call 87
 refine (sum_any w6 _ X A6 lx.length cx l6.length c6 lx l6 rfl rfl (by omega) (by omega) wX6 ho6.ws (b0 _)).mono ?_
 rintro e w7 ⟨A7, c7, l7, rfl, hc7, ho7, ht7, hv7, hb7⟩
 have HV7 := Hi hv7
 clear hv7
 have hs7 := hs6.below hb7
 have e8 := hs7.at_ 2
 have e9 := hs7.at_ 3
 have e10 := hs7.at_ 4
 simp at e8 e9 e10
 have g2 := hs7.free 2
 have g3 := hs7.free 3
 have g4 := hs7.free 4
 refine hK.out _ _ ⟨e8, e9⟩ (fun hHeld => ?_)
 clear hK K
 try simp only [Act.put, List.setIfInBounds_toArray, List.set_cons_zero, List.set_cons_succ]
 refine wpAnyH_done (by kernel_rfl) ?_ _
 simp only [HT]
 go_wp2_with fail
 go_end0
 have h67 := bt hb6 hb7
 have hO8 := (hO5.below h67)
 refine ⟨R, cr, lr, A7, c7, l7, rfl, ?_, ?_, hcr, ?_, tR, HVR.out, ?_, hc7, ?_, Dj.fresh oR5.ws ho7 hb6.size, ht7, ?_, ?_⟩
 ·have h := ((hs7.set_ 2 (.slice Y ly.length cy)).set_ 3 (.slice A7 l7.length c7)).set_ 4 (.bool (!o))
  simpa using h
 ·exact (oB5.below h67).only (((only_refl s w7).set_ (p := ⟨s, 2, none⟩) (.inl rfl) _).set_ (p := ⟨s, 3, none⟩) (.inl rfl) _ |>.set_ (p := ⟨s, 4, none⟩) (.inl rfl) _) oB
 ·exact (oR5.below h67).only (((only_refl s w7).set_ (p := ⟨s, 2, none⟩) (.inl rfl) _).set_ (p := ⟨s, 3, none⟩) (.inl rfl) _ |>.set_ (p := ⟨s, 4, none⟩) (.inl rfl) _) hsR
 ·exact (oY5.below h67).only (((only_refl s w7).set_ (p := ⟨s, 2, none⟩) (.inl rfl) _).set_ (p := ⟨s, 3, none⟩) (.inl rfl) _ |>.set_ (p := ⟨s, 4, none⟩) (.inl rfl) _) oY
 ·exact (ho7.mono (Nat.le_trans hO5.size hb6.size)).only (((only_refl s w7).set_ (p := ⟨s, 2, none⟩) (.inl rfl) _).set_ (p := ⟨s, 3, none⟩) (.inl rfl) _ |>.set_ (p := ⟨s, 4, none⟩) (.inl rfl) _) (ho7.off_ (by have := hb6.size; omega))
 ·rw [HV7.out, HV6.out, HVQ.out]
 ·exact ((hO8.set_ (p := ⟨s, 2, none⟩) (.inl rfl) _).set_ (p := ⟨s, 3, none⟩) (.inl rfl) _).set_ (p := ⟨s, 4, none⟩) (.inl rfl) _
open Go.RowKit
variable {A B X Y : Option Addr} {W a w w' : World} {a0 b0 ca cb cx cy p q s u v y0 : Nat} {e : Ending} {la lb lx ly : List Nat} {o o' odd : Bool}
structure ES (a W : World) (s : Nat) (A B X Y : Option Addr) (ca cb cx cy : Nat) (la lb lx ly : List Nat) (o : Bool) : Prop where
 cells : Cells W s 125 #[.slice A la.length ca, .slice B lb.length cb, .slice X lx.length cx, .slice Y ly.length cy, .bool o]
 oa : Own a W A ca la
 ob : Own a W B cb lb
 ox : Own a W X cx lx
 oy : Own a W Y cy ly
 ab : Dj A la B lb
 ax : Dj A la X lx
 ay : Dj A la Y ly
 bx : Dj B lb X lx
 by_ : Dj B lb Y ly
 low : a.heap.size ≤ s
 bel : Below a.heap.size a W
theorem ES.div {r z : Nat} (h : ES a w s A B X Y ca cb cx cy la lb lx ly o) (hd : EDivP a w s B Y cb cy lb ly r z o' e w') :
  ∃ R cr lr Z cz lz, e = .returned (.tuple #[]) ∧ ES a w' s B R Y Z cb cr cy cz lb lr ly lz o' ∧ val lr = r ∧ val lz = z := by
 obtain ⟨R, cr, lr, Z, cz, lz, he, hs, hB, hcr, hR, tR, vR, hY, hcz, hZ, hRZ, tZ, vZ, hO⟩ := hd
 have hw := h.bel.size
 exact ⟨R, cr, lr, Z, cz, lz, he, ⟨hs, ⟨hB, h.ob.top, h.ob.cap⟩, ⟨hR.mono hw, tR, hcr⟩, ⟨hY, h.oy.top, h.oy.cap⟩, ⟨hZ.mono hw, tZ, hcz⟩, Dj.fresh h.ob.ws hR (Nat.le_refl _), h.by_, Dj.fresh h.ob.ws hZ (Nat.le_refl _), (Dj.fresh h.oy.ws hR (Nat.le_refl _)).symm, hRZ, h.low, bo h.bel hO h.low⟩, vR, vZ⟩
def ETurnP (a w : World) (s : Nat) (A B : Option Addr) (ca cb : Nat) (A1 B1 x y : Nat) (o : Bool) (e : Ending) (w' : World) : Prop :=
 ∃ la' lb' X' cx' lx' Y' cy' ly', e = .returned (.tuple #[]) ∧ Cells w' s 125 #[.slice A la'.length ca, .slice B lb'.length cb, .slice X' lx'.length cx', .slice Y' ly'.length cy', .bool o] ∧
  OwnS a w' A la' ∧ la'.length ≤ ca ∧ Top la' ∧ val la' = A1 ∧ OwnS a w' B lb' ∧ lb'.length ≤ cb ∧ Top lb' ∧ val lb' = B1 ∧
  lx'.length ≤ cx' ∧ OwnS w w' X' lx' ∧ Top lx' ∧ val lx' = x ∧ ly'.length ≤ cy' ∧ OwnS w w' Y' ly' ∧ Top ly' ∧ val ly' = y ∧ Below a.heap.size a w'
theorem ES.turn {A1 B1 x y : Nat} (h : ES a w s A B X Y ca cb cx cy la lb lx ly o) (ha : la ≠ []) (hb : lb ≠ []) (hd : ETurnP a w s A B ca cb A1 B1 x y o' e w') :
  ∃ la' lb' X' cx' lx' Y' cy' ly', e = .returned (.tuple #[]) ∧ ES a w' s A B X' Y' ca cb cx' cy' la' lb' lx' ly' o' ∧ val la' = A1 ∧ val lb' = B1 ∧ val lx' = x ∧ val ly' = y := by
 obtain ⟨la', lb', X', cx', lx', Y', cy', ly', he, hs, hA, hca, tA, vA, hB, hcb, tB, vB, hcx, hX, tX, vX, hcy, hY, tY, vY, hbel⟩ := hd
 have hw := h.bel.size
 have f : ∀ {A : Option Addr} {c : Nat} {l : List Nat} {l' k' : List Nat} {K : Option Addr}, Own a w A c l → l ≠ [] → OwnS w w' K k' → Dj A l' K k' := fun {A c l l' k' K} hA hl hK => by
  intro h1 h2
  exact (Dj.fresh hA.ws hK (Nat.le_refl _)) hl h2
 exact ⟨la', lb', X', cx', lx', Y', cy', ly', he, ⟨hs, ⟨hA, tA, hca⟩, ⟨hB, tB, hcb⟩, ⟨hX.mono hw, tX, hcx⟩, ⟨hY.mono hw, tY, hcy⟩, h.ab.more ha hb, f h.oa ha hX, f h.oa ha hY, f h.ob hb hX, f h.ob hb hY, h.low, hbel⟩, vA, vB, vX, vY⟩
def RunI (a : World) (s a0 b0 y0 : Nat) (o : Bool) (W : World) : Prop :=
 ∃ (A B X Y : Option Addr) (ca cb cx cy : Nat) (la lb lx ly : List Nat) (p q u v : Nat) (odd : Bool), ES a W s A B X Y ca cb cx cy la lb lx ly (o != odd) ∧
  TS a0 b0 (val la) (val lb) p q u v odd ∧ Desc a0 b0 (val la) (val lb) p q u v odd ∧ val lx = y0 * q ∧ val ly = y0 * v
def RunG (a : World) (s a0 b0 y0 : Nat) (o : Bool) (e : Ending) (w' : World) : Prop :=
 ∃ (g p q u v : Nat) (odd : Bool) (A' B' X' Y' : Option Addr) (ca' cb' cx' cy' : Nat) (la' lx' ly' : List Nat), e = .returned (.tuple #[]) ∧ TR a0 b0 g 0 p q u v odd ∧ Own a w' A' ca' la' ∧ val la' = g ∧
  Cells w' s 125 #[.slice A' la'.length ca', .slice B' 0 cb', .slice X' lx'.length cx', .slice Y' ly'.length cy', .bool (o != odd)] ∧
  Own a w' X' cx' lx' ∧ val lx' = y0 * q ∧ Own a w' Y' cy' ly' ∧ val ly' = y0 * v ∧ Below a.heap.size a w'
theorem cof0 {y0 q1 v1 p2 q2 lx ly : Nat} (hx : lx = y0 * q1) (hy : ly = y0 * v1) : lx * p2 + ly * q2 = y0 * (p2 * q1 + q2 * v1) := by
 subst hx hy
 rw [Nat.mul_add, Nat.mul_assoc, Nat.mul_assoc, Nat.mul_comm q1, Nat.mul_comm v1]
theorem bne_assoc (o a b : Bool) : ((o != a) != b) = (o != (a != b)) := by cases o <;> cases a <;> cases b <;> rfl
theorem RunI.step {A B X Y A' B' X' Y' : Option Addr} {ca cb cx cy ca' cb' cx' cy' : Nat} {la lb lx ly la' lb' lx' ly' : List Nat} {p q u v p2 q2 u2 v2 : Nat} {odd o2 o' : Bool}
  (_ : ES a W s A B X Y ca cb cx cy la lb lx ly (o != odd)) (ht : TS a0 b0 (val la) (val lb) p q u v odd) (hd : Desc a0 b0 (val la) (val lb) p q u v odd) (hx : val lx = y0 * q) (hy : val ly = y0 * v)
  (h' : ES a w' s A' B' X' Y' ca' cb' cx' cy' la' lb' lx' ly' o') (ho : o' = ((o != odd) != o2)) (k : TS (val la) (val lb) (val la') (val lb') p2 q2 u2 v2 o2) (hlt : val lb' < val la') (hx' : val lx' = val lx * p2 + val ly * q2) (hy' : val ly' = val lx * u2 + val ly * v2) :
  RunI a s a0 b0 y0 o w' := by
 subst ho
 rw [bne_assoc] at h'
 exact ⟨_, _, _, _, _, _, _, _, _, _, _, _, _, _, _, _, _, h', ht.more hd k, .inl hlt, by rw [hx', cof0 hx hy], by rw [hy', cof0 hx hy]⟩
theorem RunI.fin 
  (h : ES a W s A B X Y ca cb cx cy la lb lx ly (o != odd)) (ht : TS a0 b0 (val la) (val lb) p q u v odd) (hd : Desc a0 b0 (val la) (val lb) p q u v odd) (hx : val lx = y0 * q) (hy : val ly = y0 * v)
  (hf : FinP W s (val la) (val lb) X Y cx cy lx ly (o != odd) e w') : RunG a s a0 b0 y0 o e w' := by
 obtain ⟨g, p2, q2, u2, v2, o2, A', X', Y', ca', cx', cy', la', lx', ly', he, hTR, hca', hA', tA', vA', hs', h0, h1, hO⟩ := hf
 have hw := h.bel.size
 have hbel := bo h.bel hO h.low
 rw [bne_assoc] at hs'
 refine ⟨g, _, _, _, _, _, A', none, X', Y', ca', 0, cx', cy', la', lx', ly', he, (ht.more hd hTR.ts).tr, ⟨hA'.mono hw, tA', hca'⟩, vA', hs', ?_⟩
 by_cases hl : ly = []
 ·obtain ⟨rfl, rfl, rfl, rfl, rfl, rfl⟩ := h0 hl
  have hv0 : y0 * v = 0 := by rw [← hy, hl]; rfl
  have hy0 : y0 = 0 := by
   have := ht.v_pos
   rcases Nat.mul_eq_zero.1 hv0 with h | h
   ·exact h
   ·omega
  have hx0 : lx' = [] := List.eq_nil_of_length_eq_zero ((val_eq_zero h.ox.top).1 (by rw [hx, hy0, Nat.zero_mul]))
  subst hy0 hl hx0
  exact ⟨Own.nil_ _ _ _ _, by simp [val], Own.nil_ _ _ _ _, by simp [val], hbel⟩
 ·obtain ⟨k1, k2, k3, k4, k5, k6, k7, k8⟩ := h1 hl
  exact ⟨⟨k2.mono hw, k3, k1⟩, by rw [k4, cof0 hx hy], ⟨k6.mono hw, k7, k5⟩, by rw [k8, cof0 hx hy], hbel⟩
theorem RunI.none_ 
  (h : ES a W s A B X Y ca cb cx cy la [] lx ly (o != odd)) (ht : TS a0 b0 (val la) 0 p q u v odd) (hx : val lx = y0 * q) (hy : val ly = y0 * v) : RunG a s a0 b0 y0 o (.returned (.tuple #[])) W :=
 ⟨_, p, q, u, v, odd, A, B, X, Y, ca, cb, cx, cy, la, lx, ly, rfl, ht.tr, h.oa, rfl, h.cells, h.ox, hx, h.oy, hy, h.bel⟩
open Go.RowKit
variable {L La Lb S l la lb : List Nat} {P Q U V v x y : Int} {W a w0 : World} {X Y od : Value} {b1 b2 b3 b4 b5 ca cb g ga gb h i m n p q s : Nat} {odd : Bool}
theorem JBox.new' (hp : W.heap.size = p) : JBox (W.alloc (.cells #[.int .i64 v] 2)) p v := by subst hp; exact heap_alloc_new W _
theorem JBox.alloc (h : JBox W p v) (o : Obj) : JBox (W.alloc o) p v := h.below (ba (b0 _) _)
theorem JBox.store {u v : Int} (h : JBox W p u) : JBox (W.setCell ⟨p, 0, none⟩ (.int .i64 v)) p v := by
 unfold JBox at h ⊢
 simp [World.setCell, Array.getElem?_modify, h]
theorem JBox.far (h : JBox W p v) (hne : p ≠ q) (x : Value) : JBox (W.setCell ⟨q, 0, none⟩ x) p v := (Below.heap_setCell _ ⟨q, 0, none⟩ x p hne).trans h
def FourJ (w : World) (p q u v : Int) (s1 s2 s3 s4 : Value) (W : World) : Prop :=
 ∃ b1 b2 b3 b4, s1 = .pointer (some ⟨b1, 0, none⟩) ∧ s2 = .pointer (some ⟨b2, 0, none⟩) ∧ s3 = .pointer (some ⟨b3, 0, none⟩) ∧ s4 = .pointer (some ⟨b4, 0, none⟩) ∧ JBox W b1 p ∧ JBox W b2 q ∧ JBox W b3 u ∧ JBox W b4 v ∧
  (w.heap.size ≤ b1 ∧ w.heap.size ≤ b2 ∧ w.heap.size ≤ b3 ∧ w.heap.size ≤ b4) ∧ (b1 ≠ b2 ∧ b1 ≠ b3 ∧ b1 ≠ b4 ∧ b2 ≠ b3 ∧ b2 ≠ b4 ∧ b3 ≠ b4) ∧ Below w.heap.size w W
def FourB (b1 b2 b3 b4 : Nat) (P Q U V : Int) (W1 W : World) : Prop := JBox W b1 P ∧ JBox W b2 Q ∧ JBox W b3 U ∧ JBox W b4 V ∧ Below W1.heap.size W1 W
def sg (odd : Bool) (x : Nat) : Int := if odd then -(x : Int) else (x : Int)
theorem sg_bd (odd : Bool) {x : Nat} (h : x < 2147483648) : -2147483648 < sg odd x ∧ sg odd x < 2147483648 := by unfold sg; split <;> omega
theorem sg_two (odd : Bool) (x y : Nat) : (0 ≤ sg odd x ∧ 0 ≤ sg odd y) ∨ (sg odd x ≤ 0 ∧ sg odd y ≤ 0) := by unfold sg; split <;> omega
theorem WS.on2 {w w' : World} {A : Option Addr} (k : WS w A l) (hb : On2 g h w w') (h1 : Off A l g) (h2 : Off A l h) : WS w' A l :=
 ⟨k.1, fun hl => by
  obtain ⟨b, off, e, hlt, hc⟩ := k.2 hl
  refine ⟨b, off, e, Nat.lt_of_lt_of_le hlt hb.2.2.2.1, fun j hj => ?_⟩
  rw [← hc j hj]
  exact World.cell?_of_block (hb.2.2.2.2 b hlt (h1 hl b off e) (h2 hl b off e))⟩
theorem val_take_lt (h : val l < BB m) (hm : m ≤ l.length) : val (l.take m) = val l := by
 have h1 := val_append (l.take m) (l.drop m)
 rw [List.take_append_drop, List.length_take, Nat.min_eq_left hm] at h1
 rcases Nat.eq_zero_or_pos (val (l.drop m)) with h2 | h2
 ·rw [h1, h2, Nat.mul_zero, Nat.add_zero]
 ·have := Nat.le_mul_of_pos_right (BB m) h2; omega
theorem own_trim {g n k : Nat} (hg : a.heap.size ≤ g) (hb : Blk W g L) (hn : n ≤ L.length) (hk : k ≤ n) (ht : 0 < k → gd (L.take n) (k - 1) ≠ 0) (hz : ∀ j, k ≤ j → gd (L.take n) j = 0) :
  ∃ l, l.length = k ∧ OwnS a W (some ⟨g, 0, none⟩) l ∧ Top l ∧ val l = val (L.take n) := by
 have hl : ((L.take n).take k).length = k := by rw [List.length_take, List.length_take]; omega
 refine ⟨(L.take n).take k, hl, fun _ => ⟨g, L, rfl, hg, hb, ?_, by omega⟩, fun h0 => ?_, val_take_top _ _ hz⟩
 ·rw [hl, List.take_take, Nat.min_eq_left hk]
 ·rw [hl] at h0 ⊢
  rw [gd_take (by omega)]
  exact ht h0
theorem no_carry {n N : Nat} (hS : S.length = n) (hw : ∀ z ∈ S, z < 4294967296) (hv : (val S : Int) + BB n * x = (N : Int)) (hN : N < BB n) : x = 0 ∧ val S = N := by
 have h1 := val_lt hw
 rw [hS] at h1
 have hp := BB_pos n
 have hx : x = 0 := by
  rcases Int.lt_trichotomy x 0 with h | h | h
  ·have := Int.mul_le_mul_of_nonneg_left (show x ≤ -1 by omega) (show (0 : Int) ≤ (BB n : Int) by omega)
   omega
  ·exact h
  ·have := Int.mul_le_mul_of_nonneg_left (show 1 ≤ x by omega) (show (0 : Int) ≤ (BB n : Int) by omega)
   omega
 subst hx
 exact ⟨rfl, by omega⟩
theorem ts_sg {a0 b0 a b p q u v : Nat} (h : TS a0 b0 a b p q u v odd) : sg odd p * (a0 : Int) - sg odd q * (b0 : Int) = (a : Int) ∧ sg odd v * (b0 : Int) - sg odd u * (a0 : Int) = (b : Int) := by
 have h3 := h.h3
 unfold sg
 cases odd
 ·simp only [Bool.false_eq_true, if_false] at h3 ⊢
  obtain ⟨h4, h5⟩ := h3
  have e1 : ((a + q * b0 : Nat) : Int) = ((p * a0 : Nat) : Int) := by rw [h4]
  have e2 : ((b + u * a0 : Nat) : Int) = ((v * b0 : Nat) : Int) := by rw [h5]
  simp only [Int.natCast_add, Int.natCast_mul] at e1 e2
  omega
 ·simp only [if_true] at h3 ⊢
  obtain ⟨h4, h5⟩ := h3
  have e1 : ((a + p * a0 : Nat) : Int) = ((q * b0 : Nat) : Int) := by rw [h4]
  have e2 : ((b + v * b0 : Nat) : Int) = ((u * a0 : Nat) : Int) := by rw [h5]
  simp only [Int.natCast_add, Int.natCast_mul] at e1 e2
  rw [Int.neg_mul, Int.neg_mul, Int.neg_mul, Int.neg_mul]
  omega
theorem TS.le_b {a0 b0 a b p q u v : Nat} (h : TS a0 b0 a b p q u v odd) (hba : b ≤ a) : b ≤ b0 := by
 have h2 := h.h2
 rcases h.h4 with ⟨rfl, rfl, rfl, rfl⟩ | ⟨_, _, _, h8, _⟩
 ·omega
 ·have := Nat.le_mul_of_pos_left a h8
  omega
theorem TurnI.fresh {W W' : World} {f : Nat}
  (h : TurnI w0 s ga gb b1 b2 b3 b4 b5 n m ca cb X Y od P Q U V la lb La Lb i x y W) (hO : Only f W W') (hf : w0.heap.size ≤ f) (h0 : ga < w0.heap.size ∧ gb < w0.heap.size ∧ b1 < w0.heap.size ∧ b2 < w0.heap.size ∧ b3 < w0.heap.size ∧ b4 < w0.heap.size ∧ b5 < w0.heap.size ∧ s < w0.heap.size) :
  TurnI w0 s ga gb b1 b2 b3 b4 b5 n m ca cb X Y od P Q U V la lb La Lb i x y W' := by
 obtain ⟨Sa, Sb, h1, h2, h3, h4, h5, h6, h7, h8, k1, k2, k3, k4, k5, k6, k7, k8, k9⟩ := h
 exact ⟨Sa, Sb, h1, h2, h3, h4, h5, h6, h7, h8, k1.only hO (by omega), k2.only hO (by omega), k3.only hO (by omega), k4.only hO (by omega), k5.only hO (by omega), k6.only hO (by omega), k7.only hO (by omega), k8.only hO (by omega), k9.fresh hO hf⟩
theorem enters_turn : ∀ args W, (callFunc 196 args).run Tryz.prog W = .ok (.enter 196 args) W
  := enters_of Tryz.func196 (by kernel_rfl) rfl
theorem facts6 {s p5 t5 p q u v : Nat} {A B X Y : Value} (h1 : PBox W p5 s) (h2 : Cells W s 125 #[A, B, X, Y, od]) (h3 : Cells W t5 150 #[.int .u64 (p : Int), .int .u64 (q : Int), .int .u64 (u : Int), .int .u64 (v : Int)]) :
  W.cell? ⟨p5, 0, none⟩ = some (.pointer (some ⟨s, 0, none⟩)) ∧ W.cell? ⟨s, 2, none⟩ = some X ∧ W.cell? ⟨s, 3, none⟩ = some Y ∧ W.cell? ⟨t5, 0, none⟩ = some (.int .u64 (p : Int)) ∧ W.cell? ⟨t5, 1, none⟩ = some (.int .u64 (q : Int)) ∧ W.cell? ⟨t5, 2, none⟩ = some (.int .u64 (u : Int)) ∧ W.cell? ⟨t5, 3, none⟩ = some (.int .u64 (v : Int)) := by
 have e2 := h2.at_ 2
 have e3 := h2.at_ 3
 have t0 := h3.at_ 0
 have t1 := h3.at_ 1
 have t2 := h3.at_ 2
 have t3 := h3.at_ 3
 simp at e2 e3 t0 t1 t2 t3
 exact ⟨h1.cell, e2, e3, t0, t1, t2, t3⟩
theorem put_self (a : Act) (k : Nat) : a.put (some k) (a.tmps.getD k undef) = a := by
 unfold Act.put
 have : a.tmps.setIfInBounds k (a.tmps.getD k undef) = a.tmps := by
  refine Array.ext_getElem? (fun i => ?_)
  rw [Array.getElem?_setIfInBounds]
  split
  ·rename_i h1
   subst h1
   split
   ·rename_i h2; simp [Array.getD_eq_getD_getElem?, h2]
   ·rename_i h2; rw [Array.getElem?_eq_none (by omega)]
  ·rfl
 show ({ a with tmps := a.tmps.setIfInBounds k (a.tmps.getD k undef) } : Act) = a
 rw [this]
theorem put8 (a : Act) : a = (((((((a.put (some 23) (a.tmps.getD 23 undef)).put (some 24) (a.tmps.getD 24 undef)).put (some 25) (a.tmps.getD 25 undef)).put (some 26) (a.tmps.getD 26 undef)).put (some 27) (a.tmps.getD 27 undef)).put (some 28) (a.tmps.getD 28 undef)).put (some 29) (a.tmps.getD 29 undef)).put (some 30) (a.tmps.getD 30 undef) := by
 simp only [put_self]
theorem up_of {ops : Array Oper} {md : Region.Mode} {L : Array Bool} {o : Oper} (hr : Region.ready md ops L = []) (ho : ops[i]? = some o) (he : (o.after.all fun e => !Region.binds md e || L.getD e.on false) = true) : L.getD i true = true := by
 cases hl : L.getD i true with
 | true => rfl
 | false =>
  have h1 : i ∈ Region.ready md ops L := mem_ready.2 ⟨hl, o, ho, fun e h1 h2 => by
   have h3 := Array.all_eq_true'.1 he e h1
   rw [h2] at h3
   simpa using h3⟩
  rw [hr] at h1
  cases h1
theorem below_on2 {a b c : World} (x : Below a.heap.size a b) (k : On2 g h b c) (hg : a.heap.size ≤ g) (hh : a.heap.size ≤ h) : Below a.heap.size a c := On2.bt x k hg hh
theorem lay_take (hS : S.length = i) (hi : m ≤ i) : (lay L m S).take m = S.take m := by
 have h1 : (S.take m).length = m := by rw [List.length_take]; omega
 unfold lay spl
 rw [List.take_zero, List.nil_append, List.take_append_of_le_length (by omega), List.take_of_length_le (by omega)]
theorem turnI_a (hi : i < n) (hn : n ≤ La.length) (ht : La.take n = la)
  (h : TurnI w0 s ga gb b1 b2 b3 b4 b5 n m ca cb X Y od P Q U V la lb La Lb i x y W) : W.cell? ⟨ga, i, none⟩ = some (.int .u32 (gd la i : Int)) := by
 obtain ⟨Sa, Sb, _, _, hSa, _, _, _, _, _, hb, _⟩ := h
 have h1 := hb.cell (i := i) (by rw [lay_length hn]; omega)
 rw [lay_get hn hSa] at h1
 rw [h1, ← ht, gd_take hi]
theorem turnI_b (hm : m ≤ Lb.length) (hl : lb.length = m) (ht : Lb.take m = lb)
  (h : TurnI w0 s ga gb b1 b2 b3 b4 b5 n m ca cb X Y od P Q U V la lb La Lb i x y W) : ∃ kb, WS W (some ⟨gb, 0, none⟩) kb ∧ kb.length = m ∧ gd kb i = gd lb i := by
 obtain ⟨Sa, Sb, _, _, _, hSb, _, _, _, _, _, hb, _⟩ := h
 have hlen : (lay Lb m Sb).length = Lb.length := lay_length hm
 have h1 := hb.ws (o := 0) (n := m) (by omega)
 rw [List.drop_zero] at h1
 refine ⟨_, h1, by rw [List.length_take]; omega, ?_⟩
 rcases Nat.lt_or_ge i m with hi | hi
 ·rw [gd_take hi, lay_get hm hSb, ← ht, gd_take hi]
 ·rw [gd_end (by rw [List.length_take]; omega), gd_end (by omega)]
theorem turn_any (a w : World) (s : Nat) (A B X Y : Option Addr) (ca cb cx cy : Nat) (la lb lx ly : List Nat) (o odd : Bool) (p q u v A1 B1 : Nat)
  (hp : p < 2147483648) (hq : q < 2147483648) (hu : u < 2147483648) (hv : v < 2147483648) (h : ES a w s A B X Y ca cb cx cy la lb lx ly o)
  (hlb : lb ≠ []) (hlab : lb.length ≤ la.length) (hn : la.length ≤ 400000) (hyn : ly.length ≤ 400000) (hxy : lx.length ≤ ly.length) (ht : TS (val la) (val lb) A1 B1 p q u v odd) (hBA : B1 ≤ A1) :
  Calls Tryz.prog 177 #[.pointer (some ⟨s, 0, none⟩), tv p q u v, .bool odd] w (ETurnP a w s A B ca cb A1 B1 (val lx * p + val ly * q) (val lx * u + val ly * v) (o != odd)) := by
 have hla : la ≠ [] := fun h0 => by rw [h0] at hlab; simp at hlab; exact hlb hlab
 obtain ⟨ga, La, rfl, hga, hba, hta, hna⟩ := h.oa.own hla
 obtain ⟨gb, Lb, rfl, hgb, hbb, htb, hnb⟩ := h.ob.own hlb
 have hgab : ga ≠ gb := h.ab hla hlb ga 0 gb 0 rfl rfl
 have hsa : ga ≠ s := ws_off_cells h.oa.ws h.cells hla ga 0 rfl
 have hsb : gb ≠ s := ws_off_cells h.ob.ws h.cells hlb gb 0 rfl
 have hXa : Off X lx ga := h.ax.off (w := w) rfl hla
 have hYa : Off Y ly ga := h.ay.off (w := w) rfl hla
 have hXb : Off X lx gb := h.bx.off (w := w) rfl hlb
 have hYb : Off Y ly gb := h.by_.off (w := w) rfl hlb
 have HTA := Hi hta
 have HTB := Hi htb
 clear hta htb
 go_enter Tryz.func177, Tryz.ntmps177
 go_upto_region 1 with fail
 obtain ⟨W1, hW1, pb1, hT1, hw1⟩ : ∃ W, W = (w.alloc (.cells #[.pointer (some ⟨s, 0, none⟩)] 148)).alloc (.cells #[.int .u64 (p : Int), .int .u64 (q : Int), .int .u64 (u : Int), .int .u64 (v : Int)] 150) ∧ PBox W w.heap.size s ∧ Cells W (w.heap.size + 1) 150 #[.int .u64 (p : Int), .int .u64 (q : Int), .int .u64 (u : Int), .int .u64 (v : Int)] ∧ Below w.heap.size w W := by
  refine ⟨_, rfl, (show PBox (w.alloc (.cells #[.pointer (some ⟨s, 0, none⟩)] 148)) w.heap.size s from heap_alloc_new w _).below (ba (b0 _) _), ?_, ba (ba (b0 _) _) _⟩
  have h := Cells.new (w.alloc (.cells #[.pointer (some ⟨s, 0, none⟩)] 148)) 150 #[.int .u64 (p : Int), .int .u64 (q : Int), .int .u64 (u : Int), .int .u64 (v : Int)]
  rw [World.size_alloc] at h; exact h
 rw [← hW1]
 clear hW1
 go_cut [6, 7, 8, 9] (fun s1 s2 s3 s4 wx => FourJ W1 p q u v s1 s2 s3 s4 wx)
 case first =>
  have t0 := hT1.at_ 0
  have t1 := hT1.at_ 1
  have t2 := hT1.at_ 2
  have t3 := hT1.at_ 3
  simp at t0 t1 t2 t3
  have hl1 := hT1.lt
  have hpw : IntKind.i64.wrap (p : Int) = (p : Int) := IntWalk.i64_in _ ⟨by omega, by omega⟩
  have hqw : IntKind.i64.wrap (q : Int) = (q : Int) := IntWalk.i64_in _ ⟨by omega, by omega⟩
  have huw : IntKind.i64.wrap (u : Int) = (u : Int) := IntWalk.i64_in _ ⟨by omega, by omega⟩
  have hvw : IntKind.i64.wrap (v : Int) = (v : Int) := IntWalk.i64_in _ ⟨by omega, by omega⟩
  have S5 : ∀ W, Below W1.heap.size W1 W → W.cell? ⟨w.heap.size + 1, 0, none⟩ = some (.int .u64 (p : Int)) ∧ W.cell? ⟨w.heap.size + 1, 1, none⟩ = some (.int .u64 (q : Int)) ∧ W.cell? ⟨w.heap.size + 1, 2, none⟩ = some (.int .u64 (u : Int)) ∧ W.cell? ⟨w.heap.size + 1, 3, none⟩ = some (.int .u64 (v : Int)) := fun W hb => by
   have h := hT1.below hb
   have z0 := h.at_ 0
   have z1 := h.at_ 1
   have z2 := h.at_ 2
   have z3 := h.at_ 3
   simp at z0 z1 z2 z3
   exact ⟨z0, z1, z2, z3⟩
  have HS5 := Hi S5
  clear S5
  refine wp_region_held_drew (S := fun W => W.cell? ⟨w.heap.size + 1, 0, none⟩ = some (.int .u64 (p : Int)) ∧ W.cell? ⟨w.heap.size + 1, 1, none⟩ = some (.int .u64 (q : Int)) ∧ W.cell? ⟨w.heap.size + 1, 2, none⟩ = some (.int .u64 (u : Int)) ∧ W.cell? ⟨w.heap.size + 1, 3, none⟩ = some (.int .u64 (v : Int))) (by kernel_rfl) (HS5.out _ (bw (b0 _))) (fun hHeld => ?_)
  refine tk 0 ?_
  refine tk 1 ?_
  refine tk 2 ?_
  refine tk 3 ?_
  refine tk 4 ?_
  refine tk 5 ?_
  refine tk 6 ?_
  refine tk 7 ?_
  refine tk 8 ?_
  refine tk 9 ?_
  refine tk 10 ?_
  refine tk 11 ?_
  try simp only [Act.put, List.getElem?_toArray, List.getElem?_cons_zero, List.getElem?_cons_succ, List.setIfInBounds_toArray, List.set_cons_zero, List.set_cons_succ]
  refine wpAnyH_inv (fun a0 L a W => ∃ (c0 c1 c2 c3 d0 d1 d2 d3 : Bool) (x0 x1 x2 x3 : Value) (b0 b1 b2 b3 : Nat), L = #[true, true, true, true, true, true, true, true, true, true, true, true, c0, c1, c2, c3, d0, d1, d2, d3] ∧ a = (((a0.put (some 6) x0).put (some 7) x1).put (some 8) x2).put (some 9) x3 ∧ Below W1.heap.size W1 W ∧ (c0 = true → x0 = .pointer (some ⟨b0, 0, none⟩) ∧ JBox W b0 (if d0 then (p : Int) else 0) ∧ W1.heap.size ≤ b0) ∧ (c1 = true → x1 = .pointer (some ⟨b1, 0, none⟩) ∧ JBox W b1 (if d1 then (q : Int) else 0) ∧ W1.heap.size ≤ b1) ∧ (c2 = true → x2 = .pointer (some ⟨b2, 0, none⟩) ∧ JBox W b2 (if d2 then (u : Int) else 0) ∧ W1.heap.size ≤ b2) ∧ (c3 = true → x3 = .pointer (some ⟨b3, 0, none⟩) ∧ JBox W b3 (if d3 then (v : Int) else 0) ∧ W1.heap.size ≤ b3) ∧ (c0 = true → c1 = true → b0 ≠ b1) ∧ (c0 = true → c2 = true → b0 ≠ b2) ∧ (c0 = true → c3 = true → b0 ≠ b3) ∧ (c1 = true → c2 = true → b1 ≠ b2) ∧ (c1 = true → c3 = true → b1 ≠ b3) ∧ (c2 = true → c3 = true → b2 ≠ b3) ∧ (d0 = true → c0 = true) ∧ (d1 = true → c1 = true) ∧ (d2 = true → c2 = true) ∧ (d3 = true → c3 = true)) (by decide) ?_ ?_ ?_
  ·exact ⟨false, false, false, false, false, false, false, false, undef, undef, undef, undef, 0, 0, 0, 0, rfl, (by kernel_rfl), bw (b0 _), (fun h => by cases h), (fun h => by cases h), (fun h => by cases h), (fun h => by cases h), (fun h => by cases h), (fun h => by cases h), (fun h => by cases h), (fun h => by cases h), (fun h => by cases h), (fun h => by cases h), (fun h => by cases h), (fun h => by cases h), (fun h => by cases h), (fun h => by cases h)⟩
  ·rintro L a W i ⟨c0, c1, c2, c3, d0, d1, d2, d3, x0, x1, x2, x3, b0', b1, b2', b3, rfl, rfl, hb, h0, h1, h2, h3, n01, n02, n03, n12, n13, n23, e0, e1, e2, e3⟩ hi K hK
   have hun := (mem_ready.1 hi).1
   have hi20 : i < 20 := by
    rcases Nat.lt_or_ge i 20 with h | h
    ·exact h
    ·rw [Array.getD_eq_getD_getElem?, Array.getElem?_eq_none (by simpa using h)] at hun; cases hun
   have hcase : i = 12 ∨ i = 13 ∨ i = 14 ∨ i = 15 ∨ i = 16 ∨ i = 17 ∨ i = 18 ∨ i = 19 := by
    have h12 : ¬ i < 12 := fun h => by
     have : i = 0 ∨ i = 1 ∨ i = 2 ∨ i = 3 ∨ i = 4 ∨ i = 5 ∨ i = 6 ∨ i = 7 ∨ i = 8 ∨ i = 9 ∨ i = 10 ∨ i = 11 := by omega
     rcases this with rfl | rfl | rfl | rfl | rfl | rfl | rfl | rfl | rfl | rfl | rfl | rfl <;> cases hun
    omega
   rcases hcase with rfl | rfl | rfl | rfl | rfl | rfl | rfl | rfl
   ·obtain rfl : c0 = false := hun
    have hd : d0 = false := by
     cases d0
     ·rfl
     ·exact absurd (e0 rfl) (by decide)
    subst hd
    refine wpOp_do rfl rfl ?_
    simp only [Act.put, List.setIfInBounds_toArray, List.set_cons_zero, List.set_cons_succ]
    go_simp
    refine hK.out _ _ (HS5.out _ (ba hb _)) ?_
    exact ⟨true, c1, c2, c3, false, d1, d2, d3, .pointer (some ⟨W.heap.size, 0, none⟩), x1, x2, x3, W.heap.size, b1, b2', b3, (by kernel_rfl), (by kernel_rfl), ba hb _, fun _ => ⟨rfl, JBox.new' rfl, hb.size⟩, fun h => ⟨(h1 h).1, ((h1 h).2.1).alloc _, (h1 h).2.2⟩, fun h => ⟨(h2 h).1, ((h2 h).2.1).alloc _, (h2 h).2.2⟩, fun h => ⟨(h3 h).1, ((h3 h).2.1).alloc _, (h3 h).2.2⟩, fun _ h => Nat.ne_of_gt ((h1 h).2.1.lt), fun _ h => Nat.ne_of_gt ((h2 h).2.1.lt), fun _ h => Nat.ne_of_gt ((h3 h).2.1.lt), n12, n13, n23, fun _ => rfl, e1, e2, e3⟩
   ·obtain rfl : c1 = false := hun
    have hd : d1 = false := by
     cases d1
     ·rfl
     ·exact absurd (e1 rfl) (by decide)
    subst hd
    refine wpOp_do rfl rfl ?_
    simp only [Act.put, List.setIfInBounds_toArray, List.set_cons_zero, List.set_cons_succ]
    go_simp
    refine hK.out _ _ (HS5.out _ (ba hb _)) ?_
    exact ⟨c0, true, c2, c3, d0, false, d2, d3, x0, .pointer (some ⟨W.heap.size, 0, none⟩), x2, x3, b0', W.heap.size, b2', b3, (by kernel_rfl), (by kernel_rfl), ba hb _, fun h => ⟨(h0 h).1, ((h0 h).2.1).alloc _, (h0 h).2.2⟩, fun _ => ⟨rfl, JBox.new' rfl, hb.size⟩, fun h => ⟨(h2 h).1, ((h2 h).2.1).alloc _, (h2 h).2.2⟩, fun h => ⟨(h3 h).1, ((h3 h).2.1).alloc _, (h3 h).2.2⟩, fun h _ => Nat.ne_of_lt ((h0 h).2.1.lt), n02, n03, fun _ h => Nat.ne_of_gt ((h2 h).2.1.lt), fun _ h => Nat.ne_of_gt ((h3 h).2.1.lt), n23, e0, fun _ => rfl, e2, e3⟩
   ·obtain rfl : c2 = false := hun
    have hd : d2 = false := by
     cases d2
     ·rfl
     ·exact absurd (e2 rfl) (by decide)
    subst hd
    refine wpOp_do rfl rfl ?_
    simp only [Act.put, List.setIfInBounds_toArray, List.set_cons_zero, List.set_cons_succ]
    go_simp
    refine hK.out _ _ (HS5.out _ (ba hb _)) ?_
    exact ⟨c0, c1, true, c3, d0, d1, false, d3, x0, x1, .pointer (some ⟨W.heap.size, 0, none⟩), x3, b0', b1, W.heap.size, b3, (by kernel_rfl), (by kernel_rfl), ba hb _, fun h => ⟨(h0 h).1, ((h0 h).2.1).alloc _, (h0 h).2.2⟩, fun h => ⟨(h1 h).1, ((h1 h).2.1).alloc _, (h1 h).2.2⟩, fun _ => ⟨rfl, JBox.new' rfl, hb.size⟩, fun h => ⟨(h3 h).1, ((h3 h).2.1).alloc _, (h3 h).2.2⟩, n01, fun h _ => Nat.ne_of_lt ((h0 h).2.1.lt), n03, fun h _ => Nat.ne_of_lt ((h1 h).2.1.lt), n13, fun _ h => Nat.ne_of_gt ((h3 h).2.1.lt), e0, e1, fun _ => rfl, e3⟩
   ·obtain rfl : c3 = false := hun
    have hd : d3 = false := by
     cases d3
     ·rfl
     ·exact absurd (e3 rfl) (by decide)
    subst hd
    refine wpOp_do rfl rfl ?_
    simp only [Act.put, List.setIfInBounds_toArray, List.set_cons_zero, List.set_cons_succ]
    go_simp
    refine hK.out _ _ (HS5.out _ (ba hb _)) ?_
    exact ⟨c0, c1, c2, true, d0, d1, d2, false, x0, x1, x2, .pointer (some ⟨W.heap.size, 0, none⟩), b0', b1, b2', W.heap.size, (by kernel_rfl), (by kernel_rfl), ba hb _, fun h => ⟨(h0 h).1, ((h0 h).2.1).alloc _, (h0 h).2.2⟩, fun h => ⟨(h1 h).1, ((h1 h).2.1).alloc _, (h1 h).2.2⟩, fun h => ⟨(h2 h).1, ((h2 h).2.1).alloc _, (h2 h).2.2⟩, fun _ => ⟨rfl, JBox.new' rfl, hb.size⟩, n01, n02, fun h _ => Nat.ne_of_lt ((h0 h).2.1.lt), n12, fun h _ => Nat.ne_of_lt ((h1 h).2.1.lt), fun h _ => Nat.ne_of_lt ((h2 h).2.1.lt), e0, e1, e2, fun _ => rfl⟩
   ·obtain rfl : d0 = false := hun
    have hedge := ready_edge (j := 12) hi rfl (by kernel_rfl)
    obtain rfl : c0 = true := hedge
    have hz := h0 rfl
    have hJ : JBox W b0' 0 := hz.2.1
    have hL := hz.2.2
    have hcell := hJ.cell
    rw [hz.1]
    clear hz
    have hfree := hJ.free 0
    refine wpOp_do rfl rfl ?_
    simp only [Act.put, List.setIfInBounds_toArray, List.set_cons_zero, List.set_cons_succ]
    go_simp
    refine hK.out _ _ (HS5.out _ (bs hb hL _)) ?_
    exact ⟨true, c1, c2, c3, true, d1, d2, d3, .pointer (some ⟨b0', 0, none⟩), x1, x2, x3, b0', b1, b2', b3, (by kernel_rfl), (by kernel_rfl), bs hb hL _, fun _ => ⟨rfl, hJ.store, hL⟩, fun h => ⟨(h1 h).1, ((h1 h).2.1).far ((n01 rfl h).symm) _, (h1 h).2.2⟩, fun h => ⟨(h2 h).1, ((h2 h).2.1).far ((n02 rfl h).symm) _, (h2 h).2.2⟩, fun h => ⟨(h3 h).1, ((h3 h).2.1).far ((n03 rfl h).symm) _, (h3 h).2.2⟩, n01, n02, n03, n12, n13, n23, fun _ => rfl, e1, e2, e3⟩
   ·obtain rfl : d1 = false := hun
    have hedge := ready_edge (j := 13) hi rfl (by kernel_rfl)
    obtain rfl : c1 = true := hedge
    have hz := h1 rfl
    have hJ : JBox W b1 0 := hz.2.1
    have hL := hz.2.2
    have hcell := hJ.cell
    rw [hz.1]
    clear hz
    have hfree := hJ.free 0
    refine wpOp_do rfl rfl ?_
    simp only [Act.put, List.setIfInBounds_toArray, List.set_cons_zero, List.set_cons_succ]
    go_simp
    refine hK.out _ _ (HS5.out _ (bs hb hL _)) ?_
    exact ⟨c0, true, c2, c3, d0, true, d2, d3, x0, .pointer (some ⟨b1, 0, none⟩), x2, x3, b0', b1, b2', b3, (by kernel_rfl), (by kernel_rfl), bs hb hL _, fun h => ⟨(h0 h).1, ((h0 h).2.1).far (n01 h rfl) _, (h0 h).2.2⟩, fun _ => ⟨rfl, hJ.store, hL⟩, fun h => ⟨(h2 h).1, ((h2 h).2.1).far ((n12 rfl h).symm) _, (h2 h).2.2⟩, fun h => ⟨(h3 h).1, ((h3 h).2.1).far ((n13 rfl h).symm) _, (h3 h).2.2⟩, n01, n02, n03, n12, n13, n23, e0, fun _ => rfl, e2, e3⟩
   ·obtain rfl : d2 = false := hun
    have hedge := ready_edge (j := 14) hi rfl (by kernel_rfl)
    obtain rfl : c2 = true := hedge
    have hz := h2 rfl
    have hJ : JBox W b2' 0 := hz.2.1
    have hL := hz.2.2
    have hcell := hJ.cell
    rw [hz.1]
    clear hz
    have hfree := hJ.free 0
    refine wpOp_do rfl rfl ?_
    simp only [Act.put, List.setIfInBounds_toArray, List.set_cons_zero, List.set_cons_succ]
    go_simp
    refine hK.out _ _ (HS5.out _ (bs hb hL _)) ?_
    exact ⟨c0, c1, true, c3, d0, d1, true, d3, x0, x1, .pointer (some ⟨b2', 0, none⟩), x3, b0', b1, b2', b3, (by kernel_rfl), (by kernel_rfl), bs hb hL _, fun h => ⟨(h0 h).1, ((h0 h).2.1).far (n02 h rfl) _, (h0 h).2.2⟩, fun h => ⟨(h1 h).1, ((h1 h).2.1).far (n12 h rfl) _, (h1 h).2.2⟩, fun _ => ⟨rfl, hJ.store, hL⟩, fun h => ⟨(h3 h).1, ((h3 h).2.1).far ((n23 rfl h).symm) _, (h3 h).2.2⟩, n01, n02, n03, n12, n13, n23, e0, e1, fun _ => rfl, e3⟩
   ·obtain rfl : d3 = false := hun
    have hedge := ready_edge (j := 15) hi rfl (by kernel_rfl)
    obtain rfl : c3 = true := hedge
    have hz := h3 rfl
    have hJ : JBox W b3 0 := hz.2.1
    have hL := hz.2.2
    have hcell := hJ.cell
    rw [hz.1]
    clear hz
    have hfree := hJ.free 0
    refine wpOp_do rfl rfl ?_
    simp only [Act.put, List.setIfInBounds_toArray, List.set_cons_zero, List.set_cons_succ]
    go_simp
    refine hK.out _ _ (HS5.out _ (bs hb hL _)) ?_
    exact ⟨c0, c1, c2, true, d0, d1, d2, true, x0, x1, x2, .pointer (some ⟨b3, 0, none⟩), b0', b1, b2', b3, (by kernel_rfl), (by kernel_rfl), bs hb hL _, fun h => ⟨(h0 h).1, ((h0 h).2.1).far (n03 h rfl) _, (h0 h).2.2⟩, fun h => ⟨(h1 h).1, ((h1 h).2.1).far (n13 h rfl) _, (h1 h).2.2⟩, fun h => ⟨(h2 h).1, ((h2 h).2.1).far (n23 h rfl) _, (h2 h).2.2⟩, fun _ => ⟨rfl, hJ.store, hL⟩, n01, n02, n03, n12, n13, n23, e0, e1, e2, fun _ => rfl⟩
  ·rintro L a W ⟨c0, c1, c2, c3, d0, d1, d2, d3, x0, x1, x2, x3, b0', b1, b2', b3, rfl, rfl, hb, h0, h1, h2, h3, n01, n02, n03, n12, n13, n23, e0, e1, e2, e3⟩ hr
   have hall : (c0 && c1 && c2 && c3 && d0 && d1 && d2 && d3) = true := by
    clear h0 h1 h2 h3 n01 n02 n03 n12 n13 n23 e0 e1 e2 e3
    revert c0 c1 c2 c3 d0 d1 d2 d3
    decide +kernel
   simp only [Bool.and_eq_true] at hall
   obtain ⟨⟨⟨⟨⟨⟨⟨rfl, rfl⟩, rfl⟩, rfl⟩, rfl⟩, rfl⟩, rfl⟩, rfl⟩ := hall
   have z0 := h0 rfl
   have z1 := h1 rfl
   have z2 := h2 rfl
   have z3 := h3 rfl
   clear h0 h1 h2 h3 e0 e1 e2 e3 hr
   have HZ := Hi (show FourJ W1 p q u v x0 x1 x2 x3 W from ⟨b0', b1, b2', b3, z0.1, z1.1, z2.1, z3.1, z0.2.1, z1.2.1, z2.2.1, z3.2.1, ⟨z0.2.2, z1.2.2, z2.2.2, z3.2.2⟩, ⟨n01 rfl rfl, n02 rfl rfl, n03 rfl rfl, n12 rfl rfl, n13 rfl rfl, n23 rfl rfl⟩, hb⟩)
   clear z0 z1 z2 z3 n01 n02 n03 n12 n13 n23
   go_wp2_with fail
   try simp only [Act.put, List.setIfInBounds_toArray, List.set_cons_zero, List.set_cons_succ]
   go_meet
   exact HZ.out
 case rest =>
  obtain ⟨b1, b2, b3, b4, rfl, rfl, rfl, rfl, j1, j2, j3, j4, ⟨g1, g2, g3, g4⟩, ⟨Bn12, Bn13, Bn14, Bn23, Bn24, Bn34⟩, hb2⟩ := hcut
  obtain ⟨W2, hW2⟩ : ∃ v, v = wc := ⟨_, rfl⟩
  rw [← hW2] at j1 j2 j3 j4 hb2 ⊢
  clear hW2 wc
  have hs1 := hw1.size
  go_upto_if 22 with fail
  go_cut [] (fun wx => FourB b1 b2 b3 b4 (sg odd p) (sg odd q) (sg odd u) (sg odd v) W1 wx)
  case first =>
   cases odd
   ·go_wp2_with fail
    go_meet
    exact ⟨j1, j2, j3, j4, hb2⟩
   ·have c1 := j1.cell
    have c2 := j2.cell
    have c3 := j3.cell
    have c4 := j4.cell
    have f1 := j1.free 0
    have f2 := j2.free 0
    have f3 := j3.free 0
    have f4 := j4.free 0
    have l1 := j1.lt
    have l2 := j2.lt
    have l3 := j3.lt
    have l4 := j4.lt
    obtain ⟨p', hp'⟩ : ∃ z, z = -(p : Int) := ⟨_, rfl⟩
    obtain ⟨q', hq'⟩ : ∃ z, z = -(q : Int) := ⟨_, rfl⟩
    obtain ⟨u', hu'⟩ : ∃ z, z = -(u : Int) := ⟨_, rfl⟩
    obtain ⟨v', hv'⟩ : ∃ z, z = -(v : Int) := ⟨_, rfl⟩
    have wp : IntKind.i64.wrap (-(p : Int)) = p' := by rw [hp']; exact IntWalk.i64_in _ ⟨by omega, by omega⟩
    have wq : IntKind.i64.wrap (-(q : Int)) = q' := by rw [hq']; exact IntWalk.i64_in _ ⟨by omega, by omega⟩
    have wu : IntKind.i64.wrap (-(u : Int)) = u' := by rw [hu']; exact IntWalk.i64_in _ ⟨by omega, by omega⟩
    have wv : IntKind.i64.wrap (-(v : Int)) = v' := by rw [hv']; exact IntWalk.i64_in _ ⟨by omega, by omega⟩
    have HP := Hi (show sg true p = p' ∧ sg true q = q' ∧ sg true u = u' ∧ sg true v = v' from ⟨hp'.symm, hq'.symm, hu'.symm, hv'.symm⟩)
    clear hp' hq' hu' hv'
    go_upto_region 3 with fail
    refine wp_region_held_drew (S := fun _ => True) (by kernel_rfl) trivial (fun hHeld => ?_)
    clear hHeld
    refine wpAnyH_inv (fun a0 L a W => ∃ (l0 l1 l2 l3 n0 n1 n2 n3 s0 s1 s2 s3 : Bool) (x0 x1 x2 x3 y0 y1 y2 y3 : Value), L = #[l0, n0, l1, n1, l2, n2, l3, n3, s0, s1, s2, s3] ∧ a = ((((((((a0.put (some 23) x0).put (some 24) y0).put (some 25) x1).put (some 26) y1).put (some 27) x2).put (some 28) y2).put (some 29) x3).put (some 30) y3) ∧ Below W1.heap.size W1 W ∧ JBox W b1 (if s0 then p' else (p : Int)) ∧ JBox W b2 (if s1 then q' else (q : Int)) ∧ JBox W b3 (if s2 then u' else (u : Int)) ∧ JBox W b4 (if s3 then v' else (v : Int)) ∧ (l0 = true → x0 = .int .i64 (p : Int)) ∧ (l1 = true → x1 = .int .i64 (q : Int)) ∧ (l2 = true → x2 = .int .i64 (u : Int)) ∧ (l3 = true → x3 = .int .i64 (v : Int)) ∧ (n0 = true → y0 = .int .i64 p') ∧ (n1 = true → y1 = .int .i64 q') ∧ (n2 = true → y2 = .int .i64 u') ∧ (n3 = true → y3 = .int .i64 v') ∧ (n0 = true → l0 = true) ∧ (n1 = true → l1 = true) ∧ (n2 = true → l2 = true) ∧ (n3 = true → l3 = true) ∧ (s0 = true → n0 = true) ∧ (s1 = true → n1 = true) ∧ (s2 = true → n2 = true) ∧ (s3 = true → n3 = true)) (by decide) ?_ ?_ ?_
    ·exact ⟨false, false, false, false, false, false, false, false, false, false, false, false, _, _, _, _, _, _, _, _, rfl, put8 _, bw hb2, j1, j2, j3, j4, (fun h => by cases h), (fun h => by cases h), (fun h => by cases h), (fun h => by cases h), (fun h => by cases h), (fun h => by cases h), (fun h => by cases h), (fun h => by cases h), (fun h => by cases h), (fun h => by cases h), (fun h => by cases h), (fun h => by cases h), (fun h => by cases h), (fun h => by cases h), (fun h => by cases h), (fun h => by cases h)⟩
    ·rintro L a W i ⟨l0, l1, l2, l3, n0, n1, n2, n3, s0, s1, s2, s3, x0, x1, x2, x3, y0, y1, y2, y3, rfl, rfl, hb, k0, k1, k2, k3, ex0, ex1, ex2, ex3, ey0, ey1, ey2, ey3, nl0, nl1, nl2, nl3, sn0, sn1, sn2, sn3⟩ hi K hK
     have hun := (mem_ready.1 hi).1
     have hi12 : i < 12 := by
      rcases Nat.lt_or_ge i 12 with h | h
      ·exact h
      ·rw [Array.getD_eq_getD_getElem?, Array.getElem?_eq_none (by simpa using h)] at hun; cases hun
     have hcase : i = 0 ∨ i = 1 ∨ i = 2 ∨ i = 3 ∨ i = 4 ∨ i = 5 ∨ i = 6 ∨ i = 7 ∨ i = 8 ∨ i = 9 ∨ i = 10 ∨ i = 11 := by omega
     rcases hcase with rfl | rfl | rfl | rfl | rfl | rfl | rfl | rfl | rfl | rfl | rfl | rfl
     ·obtain rfl : l0 = false := hun
      have hn : n0 = false := by
       cases n0
       ·rfl
       ·exact absurd (nl0 rfl) (by decide)
      subst hn
      have hs : s0 = false := by
       cases s0
       ·rfl
       ·exact absurd (sn0 rfl) (by decide)
      subst hs
      have hJ : JBox W b1 (p : Int) := k0
      have hcell := hJ.cell
      refine wpOp_do rfl rfl ?_
      simp only [Act.put, List.setIfInBounds_toArray, List.set_cons_zero, List.set_cons_succ]
      go_simp
      refine hK.out _ _ trivial ?_
      exact ⟨true, l1, l2, l3, false, n1, n2, n3, false, s1, s2, s3, .int .i64 (p : Int), x1, x2, x3, y0, y1, y2, y3, (by kernel_rfl), (by kernel_rfl), hb, hJ, k1, k2, k3, fun _ => rfl, ex1, ex2, ex3, (fun h => by cases h), ey1, ey2, ey3, (fun h => by cases h), nl1, nl2, nl3, (fun h => by cases h), sn1, sn2, sn3⟩
     ·obtain rfl : n0 = false := hun
      have hs : s0 = false := by
       cases s0
       ·rfl
       ·exact absurd (sn0 rfl) (by decide)
      subst hs
      have hJ : JBox W b1 (p : Int) := k0
      have hedge := ready_edge (j := 0) hi rfl (by kernel_rfl)
      obtain rfl : l0 = true := hedge
      obtain rfl := ex0 rfl
      refine wpOp_do rfl rfl ?_
      simp only [Act.put, List.setIfInBounds_toArray, List.set_cons_zero, List.set_cons_succ]
      go_simp
      refine hK.out _ _ trivial ?_
      exact ⟨true, l1, l2, l3, true, n1, n2, n3, false, s1, s2, s3, .int .i64 (p : Int), x1, x2, x3, .int .i64 p', y1, y2, y3, (by kernel_rfl), (by kernel_rfl), hb, hJ, k1, k2, k3, fun _ => rfl, ex1, ex2, ex3, fun _ => rfl, ey1, ey2, ey3, fun _ => rfl, nl1, nl2, nl3, (fun h => by cases h), sn1, sn2, sn3⟩
     ·obtain rfl : l1 = false := hun
      have hn : n1 = false := by
       cases n1
       ·rfl
       ·exact absurd (nl1 rfl) (by decide)
      subst hn
      have hs : s1 = false := by
       cases s1
       ·rfl
       ·exact absurd (sn1 rfl) (by decide)
      subst hs
      have hJ : JBox W b2 (q : Int) := k1
      have hcell := hJ.cell
      refine wpOp_do rfl rfl ?_
      simp only [Act.put, List.setIfInBounds_toArray, List.set_cons_zero, List.set_cons_succ]
      go_simp
      refine hK.out _ _ trivial ?_
      exact ⟨l0, true, l2, l3, n0, false, n2, n3, s0, false, s2, s3, x0, .int .i64 (q : Int), x2, x3, y0, y1, y2, y3, (by kernel_rfl), (by kernel_rfl), hb, k0, hJ, k2, k3, ex0, fun _ => rfl, ex2, ex3, ey0, (fun h => by cases h), ey2, ey3, nl0, (fun h => by cases h), nl2, nl3, sn0, (fun h => by cases h), sn2, sn3⟩
     ·obtain rfl : n1 = false := hun
      have hs : s1 = false := by
       cases s1
       ·rfl
       ·exact absurd (sn1 rfl) (by decide)
      subst hs
      have hJ : JBox W b2 (q : Int) := k1
      have hedge := ready_edge (j := 2) hi rfl (by kernel_rfl)
      obtain rfl : l1 = true := hedge
      obtain rfl := ex1 rfl
      refine wpOp_do rfl rfl ?_
      simp only [Act.put, List.setIfInBounds_toArray, List.set_cons_zero, List.set_cons_succ]
      go_simp
      refine hK.out _ _ trivial ?_
      exact ⟨l0, true, l2, l3, n0, true, n2, n3, s0, false, s2, s3, x0, .int .i64 (q : Int), x2, x3, y0, .int .i64 q', y2, y3, (by kernel_rfl), (by kernel_rfl), hb, k0, hJ, k2, k3, ex0, fun _ => rfl, ex2, ex3, ey0, fun _ => rfl, ey2, ey3, nl0, fun _ => rfl, nl2, nl3, sn0, (fun h => by cases h), sn2, sn3⟩
     ·obtain rfl : l2 = false := hun
      have hn : n2 = false := by
       cases n2
       ·rfl
       ·exact absurd (nl2 rfl) (by decide)
      subst hn
      have hs : s2 = false := by
       cases s2
       ·rfl
       ·exact absurd (sn2 rfl) (by decide)
      subst hs
      have hJ : JBox W b3 (u : Int) := k2
      have hcell := hJ.cell
      refine wpOp_do rfl rfl ?_
      simp only [Act.put, List.setIfInBounds_toArray, List.set_cons_zero, List.set_cons_succ]
      go_simp
      refine hK.out _ _ trivial ?_
      exact ⟨l0, l1, true, l3, n0, n1, false, n3, s0, s1, false, s3, x0, x1, .int .i64 (u : Int), x3, y0, y1, y2, y3, (by kernel_rfl), (by kernel_rfl), hb, k0, k1, hJ, k3, ex0, ex1, fun _ => rfl, ex3, ey0, ey1, (fun h => by cases h), ey3, nl0, nl1, (fun h => by cases h), nl3, sn0, sn1, (fun h => by cases h), sn3⟩
     ·obtain rfl : n2 = false := hun
      have hs : s2 = false := by
       cases s2
       ·rfl
       ·exact absurd (sn2 rfl) (by decide)
      subst hs
      have hJ : JBox W b3 (u : Int) := k2
      have hedge := ready_edge (j := 4) hi rfl (by kernel_rfl)
      obtain rfl : l2 = true := hedge
      obtain rfl := ex2 rfl
      refine wpOp_do rfl rfl ?_
      simp only [Act.put, List.setIfInBounds_toArray, List.set_cons_zero, List.set_cons_succ]
      go_simp
      refine hK.out _ _ trivial ?_
      exact ⟨l0, l1, true, l3, n0, n1, true, n3, s0, s1, false, s3, x0, x1, .int .i64 (u : Int), x3, y0, y1, .int .i64 u', y3, (by kernel_rfl), (by kernel_rfl), hb, k0, k1, hJ, k3, ex0, ex1, fun _ => rfl, ex3, ey0, ey1, fun _ => rfl, ey3, nl0, nl1, fun _ => rfl, nl3, sn0, sn1, (fun h => by cases h), sn3⟩
     ·obtain rfl : l3 = false := hun
      have hn : n3 = false := by
       cases n3
       ·rfl
       ·exact absurd (nl3 rfl) (by decide)
      subst hn
      have hs : s3 = false := by
       cases s3
       ·rfl
       ·exact absurd (sn3 rfl) (by decide)
      subst hs
      have hJ : JBox W b4 (v : Int) := k3
      have hcell := hJ.cell
      refine wpOp_do rfl rfl ?_
      simp only [Act.put, List.setIfInBounds_toArray, List.set_cons_zero, List.set_cons_succ]
      go_simp
      refine hK.out _ _ trivial ?_
      exact ⟨l0, l1, l2, true, n0, n1, n2, false, s0, s1, s2, false, x0, x1, x2, .int .i64 (v : Int), y0, y1, y2, y3, (by kernel_rfl), (by kernel_rfl), hb, k0, k1, k2, hJ, ex0, ex1, ex2, fun _ => rfl, ey0, ey1, ey2, (fun h => by cases h), nl0, nl1, nl2, (fun h => by cases h), sn0, sn1, sn2, (fun h => by cases h)⟩
     ·obtain rfl : n3 = false := hun
      have hs : s3 = false := by
       cases s3
       ·rfl
       ·exact absurd (sn3 rfl) (by decide)
      subst hs
      have hJ : JBox W b4 (v : Int) := k3
      have hedge := ready_edge (j := 6) hi rfl (by kernel_rfl)
      obtain rfl : l3 = true := hedge
      obtain rfl := ex3 rfl
      refine wpOp_do rfl rfl ?_
      simp only [Act.put, List.setIfInBounds_toArray, List.set_cons_zero, List.set_cons_succ]
      go_simp
      refine hK.out _ _ trivial ?_
      exact ⟨l0, l1, l2, true, n0, n1, n2, true, s0, s1, s2, false, x0, x1, x2, .int .i64 (v : Int), y0, y1, y2, .int .i64 v', (by kernel_rfl), (by kernel_rfl), hb, k0, k1, k2, hJ, ex0, ex1, ex2, fun _ => rfl, ey0, ey1, ey2, fun _ => rfl, nl0, nl1, nl2, fun _ => rfl, sn0, sn1, sn2, (fun h => by cases h)⟩
     ·obtain rfl : s0 = false := hun
      have hJ : JBox W b1 (p : Int) := k0
      have hedge := ready_edge (j := 1) hi rfl (by kernel_rfl)
      obtain rfl : n0 = true := hedge
      obtain rfl := ey0 rfl
      obtain rfl : l0 = true := nl0 rfl
      obtain rfl := ex0 rfl
      have hcell := hJ.cell
      have hfree := hJ.free 0
      refine wpOp_do rfl rfl ?_
      simp only [Act.put, List.setIfInBounds_toArray, List.set_cons_zero, List.set_cons_succ]
      go_simp
      refine hK.out _ _ trivial ?_
      exact ⟨true, l1, l2, l3, true, n1, n2, n3, true, s1, s2, s3, .int .i64 (p : Int), x1, x2, x3, .int .i64 p', y1, y2, y3, (by kernel_rfl), (by kernel_rfl), bs (p := ⟨b1, 0, none⟩) hb g1 _, hJ.store, k1.far Bn12.symm _, k2.far Bn13.symm _, k3.far Bn14.symm _, fun _ => rfl, ex1, ex2, ex3, fun _ => rfl, ey1, ey2, ey3, fun _ => rfl, nl1, nl2, nl3, fun _ => rfl, sn1, sn2, sn3⟩
     ·obtain rfl : s1 = false := hun
      have hJ : JBox W b2 (q : Int) := k1
      have hedge := ready_edge (j := 3) hi rfl (by kernel_rfl)
      obtain rfl : n1 = true := hedge
      obtain rfl := ey1 rfl
      obtain rfl : l1 = true := nl1 rfl
      obtain rfl := ex1 rfl
      have hcell := hJ.cell
      have hfree := hJ.free 0
      refine wpOp_do rfl rfl ?_
      simp only [Act.put, List.setIfInBounds_toArray, List.set_cons_zero, List.set_cons_succ]
      go_simp
      refine hK.out _ _ trivial ?_
      exact ⟨l0, true, l2, l3, n0, true, n2, n3, s0, true, s2, s3, x0, .int .i64 (q : Int), x2, x3, y0, .int .i64 q', y2, y3, (by kernel_rfl), (by kernel_rfl), bs (p := ⟨b2, 0, none⟩) hb g2 _, k0.far Bn12 _, hJ.store, k2.far Bn23.symm _, k3.far Bn24.symm _, ex0, fun _ => rfl, ex2, ex3, ey0, fun _ => rfl, ey2, ey3, nl0, fun _ => rfl, nl2, nl3, sn0, fun _ => rfl, sn2, sn3⟩
     ·obtain rfl : s2 = false := hun
      have hJ : JBox W b3 (u : Int) := k2
      have hedge := ready_edge (j := 5) hi rfl (by kernel_rfl)
      obtain rfl : n2 = true := hedge
      obtain rfl := ey2 rfl
      obtain rfl : l2 = true := nl2 rfl
      obtain rfl := ex2 rfl
      have hcell := hJ.cell
      have hfree := hJ.free 0
      refine wpOp_do rfl rfl ?_
      simp only [Act.put, List.setIfInBounds_toArray, List.set_cons_zero, List.set_cons_succ]
      go_simp
      refine hK.out _ _ trivial ?_
      exact ⟨l0, l1, true, l3, n0, n1, true, n3, s0, s1, true, s3, x0, x1, .int .i64 (u : Int), x3, y0, y1, .int .i64 u', y3, (by kernel_rfl), (by kernel_rfl), bs (p := ⟨b3, 0, none⟩) hb g3 _, k0.far Bn13 _, k1.far Bn23 _, hJ.store, k3.far Bn34.symm _, ex0, ex1, fun _ => rfl, ex3, ey0, ey1, fun _ => rfl, ey3, nl0, nl1, fun _ => rfl, nl3, sn0, sn1, fun _ => rfl, sn3⟩
     ·obtain rfl : s3 = false := hun
      have hJ : JBox W b4 (v : Int) := k3
      have hedge := ready_edge (j := 7) hi rfl (by kernel_rfl)
      obtain rfl : n3 = true := hedge
      obtain rfl := ey3 rfl
      obtain rfl : l3 = true := nl3 rfl
      obtain rfl := ex3 rfl
      have hcell := hJ.cell
      have hfree := hJ.free 0
      refine wpOp_do rfl rfl ?_
      simp only [Act.put, List.setIfInBounds_toArray, List.set_cons_zero, List.set_cons_succ]
      go_simp
      refine hK.out _ _ trivial ?_
      exact ⟨l0, l1, l2, true, n0, n1, n2, true, s0, s1, s2, true, x0, x1, x2, .int .i64 (v : Int), y0, y1, y2, .int .i64 v', (by kernel_rfl), (by kernel_rfl), bs (p := ⟨b4, 0, none⟩) hb g4 _, k0.far Bn14 _, k1.far Bn24 _, k2.far Bn34 _, hJ.store, ex0, ex1, ex2, fun _ => rfl, ey0, ey1, ey2, fun _ => rfl, nl0, nl1, nl2, fun _ => rfl, sn0, sn1, sn2, fun _ => rfl⟩
    ·rintro L a W ⟨l0, l1, l2, l3, n0, n1, n2, n3, s0, s1, s2, s3, x0, x1, x2, x3, y0, y1, y2, y3, rfl, rfl, hb, k0, k1, k2, k3, ex0, ex1, ex2, ex3, ey0, ey1, ey2, ey3, nl0, nl1, nl2, nl3, sn0, sn1, sn2, sn3⟩ hr
     obtain rfl : l0 = true := up_of (i := 0) hr rfl (by kernel_rfl)
     obtain rfl : l1 = true := up_of (i := 2) hr rfl (by kernel_rfl)
     obtain rfl : l2 = true := up_of (i := 4) hr rfl (by kernel_rfl)
     obtain rfl : l3 = true := up_of (i := 6) hr rfl (by kernel_rfl)
     obtain rfl : n0 = true := up_of (i := 1) hr rfl (by kernel_rfl)
     obtain rfl : n1 = true := up_of (i := 3) hr rfl (by kernel_rfl)
     obtain rfl : n2 = true := up_of (i := 5) hr rfl (by kernel_rfl)
     obtain rfl : n3 = true := up_of (i := 7) hr rfl (by kernel_rfl)
     obtain rfl : s0 = true := up_of (i := 8) hr rfl (by kernel_rfl)
     obtain rfl : s1 = true := up_of (i := 9) hr rfl (by kernel_rfl)
     obtain rfl : s2 = true := up_of (i := 10) hr rfl (by kernel_rfl)
     obtain rfl : s3 = true := up_of (i := 11) hr rfl (by kernel_rfl)
     have HZ := Hi (show FourB b1 b2 b3 b4 p' q' u' v' W1 W from ⟨k0, k1, k2, k3, hb⟩)
     clear k0 k1 k2 k3 ex0 ex1 ex2 ex3 ey0 ey1 ey2 ey3 nl0 nl1 nl2 nl3 sn0 sn1 sn2 sn3 hr
     go_wp2_with fail
     try simp only [Act.put, List.setIfInBounds_toArray, List.set_cons_zero, List.set_cons_succ]
     go_meet
     obtain ⟨e1, e2, e3, e4⟩ := HP.out
     rw [e1, e2, e3, e4]
     exact HZ.out
  case rest =>
   obtain ⟨j1, j2, j3, j4, hb3⟩ := hcut
   obtain ⟨W3, hW3⟩ : ∃ v, v = wc := ⟨_, rfl⟩
   rw [← hW3] at j1 j2 j3 j4 hb3 ⊢
   clear hW3 wc
   have lsw := h.cells.lt
   have lga := hba.lt
   have lgb := hbb.lt
   have hs3 := (h.cells.below hw1).below hb3
   have ba3 := (hba.below hw1).below hb3
   have bb3 := (hbb.below hw1).below hb3
   have pb3 := pb1.below hb3
   have hT3 := hT1.below hb3
   have hX3 := (h.ox.ws.below hw1).below hb3
   have hY3 := (h.oy.ws.below hw1).below hb3
   have hel3 := bt (bt h.bel hw1) hb3
   have c5 := pb3.cell
   have e0 := hs3.at_ 0
   have e1 := hs3.at_ 1
   simp at e0 e1
   have l1 := j1.lt
   have l2 := j2.lt
   have l3 := j3.lt
   have l4 := j4.lt
   have l5 := pb3.lt
   have l6 := hT3.lt
   have l7 := hs3.lt
   have hps : w.heap.size ≠ s := by omega
   have hsz3 := hb3.size
   have HAP := Hi (show Apart s ga gb b1 b2 b4 b3 w.heap.size from ⟨hgab, fun e => hsa e.symm, fun e => hsb e.symm, by omega, by omega, by omega, by omega, by omega, by omega, by omega, by omega, by omega, by omega⟩)
   have hJ := Hi (And.intro j1 (And.intro j2 (And.intro j3 j4)))
   clear j1 j2 j3 j4
   have HF := Hi (foldC 196 (.pointer (some ⟨b1, 0, none⟩)) (.pointer (some ⟨b2, 0, none⟩)) (.pointer (some ⟨b4, 0, none⟩)) (.pointer (some ⟨b3, 0, none⟩)) (.pointer (some ⟨w.heap.size, 0, none⟩)) ga gb (some ⟨gb, 0, none⟩) la.length ca lb.length cb la lb (TurnI W3.drew s ga gb b1 b2 b4 b3 w.heap.size la.length lb.length ca cb (.slice X lx.length cx) (.slice Y ly.length cy) (.bool o) (sg odd p) (sg odd q) (sg odd u) (sg odd v) la lb La Lb) W3.drew (by omega) (by omega) h.oa.cap ba3.lt bb3.lt enters_turn (fun i x y W hi hI => turnI_a hi hna HTA.out hI) (fun i x y W hi hI => turnI_b hnb rfl HTB.out hI) (fun i x y W W' fb hI hf hO => hI.fresh hO hf ⟨ba3.lt, bb3.lt, l1, l2, l4, l3, l5, l7⟩) (fun i x y W hi hI => turn1_any W3.drew s ga gb b1 b2 b4 b3 w.heap.size la.length lb.length ca cb (.slice X lx.length cx) (.slice Y ly.length cy) (.bool o) (sg odd p) (sg odd q) (sg odd u) (sg odd v) la lb La Lb i x y W hi hna hnb (by omega) (by omega) h.oa.ws.1 h.ob.ws.1 (sg_two odd p q) (sg_two odd v u) (sg_bd odd hp) (sg_bd odd hq) (sg_bd odd hu) (sg_bd odd hv) HAP.out hI) (⟨[], [], by omega, by omega, rfl, rfl, by simp, by simp, by simp [val], by simp [val], by unfold lay; rw [List.take_nil, spl_nil]; exact ba3, by unfold lay; rw [List.take_nil, spl_nil]; exact bb3, hJ.out.1, hJ.out.2.1, hJ.out.2.2.2, hJ.out.2.2.1, pb3, hs3, on2_refl _ _ _⟩))
   clear hJ
   go_upto_region 4 with fail
   go_region_held3 (fun W => W.cell? ⟨w.heap.size, 0, none⟩ = some (.pointer (some ⟨s, 0, none⟩)) ∧ W.cell? ⟨s, 0, none⟩ = some (.slice (some ⟨ga, 0, none⟩) la.length ca) ∧ W.cell? ⟨s, 1, none⟩ = some (.slice (some ⟨gb, 0, none⟩) lb.length cb))
    (first | exact ⟨c5, e0, e1⟩ | exact ⟨y5, y0, y1⟩)
    (first
     | (go_at_call 195; refine HF.out.mono ?_; rintro e w4 ⟨x, y, rfl, Sa, Sb, hx12, hy12, hSa, hSb, hSaw, hSbw, hva, hvb, ba4, bb4, k1', k2', k3', k4', pb4, hs4, hO4⟩; have HVV := Hi (And.intro hSa (And.intro hSb (And.intro hva hvb))); clear hSa hSb hva hvb k1' k2' k3' k4'; have y5 := pb4.cell; have y0 := hs4.at_ 0; have y1 := hs4.at_ 1; simp at y0 y1))
   rename_i hHeld4
   clear hHeld4
   have hO4' : On2 ga gb W3 w4 := hO4
   have hszA : w.heap.size ≤ w4.heap.size := Nat.le_trans hw1.size (Nat.le_trans hb3.size hO4'.2.2.2.1)
   have hT4 := hT3.on2 hO4' (by omega) (by omega)
   have hX4 := hX3.on2 hO4' hXa hXb
   have hY4 := hY3.on2 hO4' hYa hYb
   have hel4 := below_on2 hel3 hO4' hga hgb
   have hXs : Off X lx s := ws_off_cells h.ox.ws h.cells
   have hYs : Off Y ly s := ws_off_cells h.oy.ws h.cells
   obtain ⟨hSa, hSb, hva, hvb⟩ := HVV.out
   rw [List.take_length, List.take_of_length_le hlab, (ts_sg ht).1] at hva
   rw [List.take_length, List.take_of_length_le hlab, (ts_sg ht).2] at hvb
   obtain ⟨-, vSa⟩ := no_carry hSa hSaw hva (Nat.lt_of_le_of_lt ht.le_a (val_lt h.oa.ws.1))
   have hB1 : B1 < BB lb.length := Nat.lt_of_le_of_lt (ht.le_b hBA) (val_lt h.ob.ws.1)
   obtain ⟨-, vSb⟩ := no_carry hSb hSbw hvb (Nat.lt_of_lt_of_le hB1 (BB_mono hlab))
   have HVA := Hi (show val ((lay La la.length Sa).take la.length) = A1 by rw [lay_take hSa (Nat.le_refl _), List.take_of_length_le (by omega)]; exact vSa)
   have HVB := Hi (show val ((lay Lb lb.length Sb).take lb.length) = B1 by rw [lay_take hSb hlab, val_take_lt (by rw [vSb]; exact hB1) (by omega)]; exact vSb)
   have HLA := Hi (show (lay La la.length Sa).length = La.length from lay_length hna)
   have HLB := Hi (show (lay Lb lb.length Sb).length = Lb.length from lay_length hnb)
   clear HVV hSa hSb hva hvb vSa vSb hB1 hO4 hO4' HF HAP y5 y0 y1 e0 e1 hX3 hY3 hT3 hs3 ba3 bb3 pb3 hel3
   have c5 := pb4.cell
   have e0 := hs4.at_ 0
   have e1 := hs4.at_ 1
   simp at e0 e1
   go_upto_region 5 with fail
   refine wp_region_cutH 12 1 (fun W => W.cell? ⟨w.heap.size, 0, none⟩ = some (.pointer (some ⟨s, 0, none⟩))) (fun W => W.cell? ⟨w.heap.size, 0, none⟩ = some (.pointer (some ⟨s, 0, none⟩)) ∧ W.cell? ⟨s, 0, none⟩ = some (.slice (some ⟨ga, 0, none⟩) la.length ca) ∧ W.cell? ⟨s, 1, none⟩ = some (.slice (some ⟨gb, 0, none⟩) lb.length cb)) (by kernel_rfl) (by decide) (fun _ h => h.1) (by kernel_rfl) (by kernel_rfl) rfl (by kernel_rfl) (by kernel_rfl) (by kernel_rfl) (fun _ _ _ h => h) (v := .pointer (some ⟨s, 0, none⟩)) (.inl ⟨by rfl, fun W hSw => by (try dsimp only at hSw); go_simp⟩) ⟨c5, e0, e1⟩ (fun hHeld => ?_)
   simp only [List.take_succ_cons, List.take_zero, List.drop_succ_cons, List.drop_zero, Nat.reduceSub, Act.put, List.setIfInBounds_toArray, List.set_cons_zero, List.set_cons_succ]
   obtain ⟨Wd, hWd⟩ : ∃ W, W = w4.drew := ⟨_, rfl⟩
   rw [← hWd] at hHeld ⊢
   have pbd : PBox Wd w.heap.size s := by rw [hWd]; exact pb4
   have hsd : Cells Wd s 125 #[.slice (some ⟨ga, 0, none⟩) la.length ca, .slice (some ⟨gb, 0, none⟩) lb.length cb, .slice X lx.length cx, .slice Y ly.length cy, .bool o] := by rw [hWd]; exact hs4
   have bad : Blk Wd ga (lay La la.length Sa) := by rw [hWd]; exact ba4
   have bbd : Blk Wd gb (lay Lb lb.length Sb) := by rw [hWd]; exact bb4
   have hTd : Cells Wd (w.heap.size + 1) 150 #[.int .u64 (p : Int), .int .u64 (q : Int), .int .u64 (u : Int), .int .u64 (v : Int)] := by rw [hWd]; exact hT4
   have hXd : WS Wd X lx := by rw [hWd]; exact hX4
   have hYd : WS Wd Y ly := by rw [hWd]; exact hY4
   have held : Below a.heap.size a Wd := by rw [hWd]; exact bw hel4
   have hszd : w.heap.size ≤ Wd.heap.size := by rw [hWd]; exact hszA
   clear hWd hszA pb4 hs4 ba4 bb4 hT4 hX4 hY4 hel4
   have hwa4 : WS Wd (some ⟨ga, 0, none⟩) ((lay La la.length Sa).take la.length) := by
    have := bad.ws (o := 0) (n := la.length) (by rw [HLA.out]; omega)
    rwa [List.drop_zero] at this
   have hwb4 : WS Wd (some ⟨gb, 0, none⟩) ((lay Lb lb.length Sb).take lb.length) := by
    have := bbd.ws (o := 0) (n := lb.length) (by rw [HLB.out]; omega)
    rwa [List.drop_zero] at this
   have c5 := pbd.cell
   have e0 := hsd.at_ 0
   have e1 := hsd.at_ 1
   simp at e0 e1
   have f0 := hsd.free 0
   have f1 := hsd.free 1
   have lsd := hsd.lt
   have lpd := pbd.lt
   refine tk 0 ?_
   refine tk 2 ?_
   refine tk 3 ?_
   refine tk 4 ?_
   refine tk 5 ?_
   refine tk 7 ?_
   refine tk 8 ?_
   refine tk 9 ?_
   refine tk 10 ?_
   refine cl 6 fun K hK => ?_
   go_simp
   go_at_call 139
   refine (trim_any (some ⟨ga, 0, none⟩) la.length ca ((lay La la.length Sa).take la.length) _ (by rw [List.length_take, HLA.out]; omega) (by omega) h.oa.cap hwa4).mono ?_
   rintro e w5 ⟨⟨k1, hk1, rfl, tk1, zk1⟩, rfl⟩
   have HT1 := Hi (And.intro tk1 zk1)
   clear tk1 zk1
   refine hK.out _ _ ⟨c5, e0, e1⟩ (fun hHeld => ?_)
   clear hK K
   try simp only [Act.put, List.getElem_toArray, List.getElem_cons_zero, List.getElem_cons_succ, List.setIfInBounds_toArray, List.set_cons_zero, List.set_cons_succ]
   refine cl 11 fun K hK => ?_
   go_simp
   go_at_call 139
   refine (trim_any (some ⟨gb, 0, none⟩) lb.length cb ((lay Lb lb.length Sb).take lb.length) _ (by rw [List.length_take, HLB.out]; omega) (by omega) h.ob.cap hwb4).mono ?_
   rintro e w5 ⟨⟨k2, hk2, rfl, tk2, zk2⟩, rfl⟩
   have HT2 := Hi (And.intro tk2 zk2)
   clear tk2 zk2
   refine hK.out _ _ ⟨c5, e0, e1⟩ (fun hHeld => ?_)
   clear hK K
   try simp only [Act.put, List.getElem_toArray, List.getElem_cons_zero, List.getElem_cons_succ, List.setIfInBounds_toArray, List.set_cons_zero, List.set_cons_succ]
   refine wpAnyH_done (by kernel_rfl) ?_ _
   simp only [HTH]
   have hH0 := c5
   refine tk 12 ?_
   refine tk 13 ?_
   refine cl 14 fun K hK => ?_
   go_simp
   refine hK.out _ _ (pbd.only ((only_refl s Wd).set_ (p := ⟨s, 0, none⟩) (.inl rfl) _) hps).cell (fun hHeld => ?_)
   clear hK K
   try simp only [Act.put, List.getElem_toArray, List.getElem_cons_zero, List.getElem_cons_succ, List.setIfInBounds_toArray, List.set_cons_zero, List.set_cons_succ]
   obtain ⟨Wx, hWx⟩ : ∃ W, W = Wd.setCell ⟨s, 0, none⟩ (.slice (some ⟨ga, 0, none⟩) k1 ca) := ⟨_, rfl⟩
   rw [← hWx] at hHeld ⊢
   have hOx : Only s Wd Wx := by rw [hWx]; exact (only_refl s Wd).set_ (p := ⟨s, 0, none⟩) (.inl rfl) _
   have hsx : Cells Wx s 125 #[.slice (some ⟨ga, 0, none⟩) k1 ca, .slice (some ⟨gb, 0, none⟩) lb.length cb, .slice X lx.length cx, .slice Y ly.length cy, .bool o] := by
    have h := hsd.set_ 0 (.slice (some ⟨ga, 0, none⟩) k1 ca)
    simp only [Array.setIfInBounds, List.size_toArray, List.length_cons, List.length_nil] at h
    rw [hWx]; simpa using h
   have pbx := pbd.only hOx hps
   clear hWx f0 f1 e0 e1
   have f1 := hsx.free 1
   have e1 := hsx.at_ 1
   simp at e1
   have lsx := hsx.lt
   refine tk 15 ?_
   refine tk 16 ?_
   refine cl 17 fun K hK => ?_
   go_simp
   refine hK.out _ _ (pbx.only ((only_refl s Wx).set_ (p := ⟨s, 1, none⟩) (.inl rfl) _) hps).cell (fun hHeld => ?_)
   clear hK K
   try simp only [Act.put, List.getElem_toArray, List.getElem_cons_zero, List.getElem_cons_succ, List.setIfInBounds_toArray, List.set_cons_zero, List.set_cons_succ]
   refine wpAnyH_done (by kernel_rfl) ?_ _
   obtain ⟨W5, hW5⟩ : ∃ W, W = Wx.setCell ⟨s, 1, none⟩ (.slice (some ⟨gb, 0, none⟩) k2 cb) := ⟨_, rfl⟩
   rw [← hW5]
   have hO5 : Only s Wd W5 := by rw [hW5]; exact hOx.set_ (p := ⟨s, 1, none⟩) (.inl rfl) _
   have hs5 : Cells W5 s 125 #[.slice (some ⟨ga, 0, none⟩) k1 ca, .slice (some ⟨gb, 0, none⟩) k2 cb, .slice X lx.length cx, .slice Y ly.length cy, .bool o] := by
    have h := hsx.set_ 1 (.slice (some ⟨gb, 0, none⟩) k2 cb)
    simp only [Array.setIfInBounds, List.size_toArray, List.length_cons, List.length_nil] at h
    rw [hW5]; simpa using h
   clear hW5
   have pb5 := pbd.only hO5 hps
   have hT5 := hTd.only hO5 (by omega)
   have hX5 := hXd.only hO5 hXs
   have hY5 := hYd.only hO5 hYs
   have ba5 := bad.only hO5 hsa
   have bb5 := bbd.only hO5 hsb
   have hel5 := bo held hO5 h.low
   clear hHeld hH0 pbx hsx f1 e1 lsx lsd lpd pbd hsd bad bbd hTd hXd hYd held hwa4 hwb4 c5
   have l5' := pb5.lt
   have l6' := hT5.lt
   have l7' := hs5.lt
   have c5 := pb5.cell
   have e2 := hs5.at_ 2
   have e3 := hs5.at_ 3
   have t0 := hT5.at_ 0
   have t1 := hT5.at_ 1
   have t2 := hT5.at_ 2
   have t3 := hT5.at_ 3
   simp at e2 e3 t0 t1 t2 t3
   go_upto_region 6 with fail
   refine wp_region_cutH 28 1 (fun W => W.cell? ⟨w.heap.size, 0, none⟩ = some (.pointer (some ⟨s, 0, none⟩))) (fun W => W.cell? ⟨w.heap.size, 0, none⟩ = some (.pointer (some ⟨s, 0, none⟩)) ∧ W.cell? ⟨s, 2, none⟩ = some (.slice X lx.length cx) ∧ W.cell? ⟨s, 3, none⟩ = some (.slice Y ly.length cy) ∧ W.cell? ⟨w.heap.size + 1, 0, none⟩ = some (.int .u64 (p : Int)) ∧ W.cell? ⟨w.heap.size + 1, 1, none⟩ = some (.int .u64 (q : Int)) ∧ W.cell? ⟨w.heap.size + 1, 2, none⟩ = some (.int .u64 (u : Int)) ∧ W.cell? ⟨w.heap.size + 1, 3, none⟩ = some (.int .u64 (v : Int))) (by kernel_rfl) (by decide) (fun _ h => h.1) (by kernel_rfl) (by kernel_rfl) rfl (by kernel_rfl) (by kernel_rfl) (by kernel_rfl) (fun _ _ _ h => h) (v := .pointer (some ⟨s, 0, none⟩)) (.inl ⟨by rfl, fun W hSw => by (try dsimp only at hSw); go_simp⟩) (facts6 pb5 hs5 hT5) (fun hHeld => ?_)
   simp only [List.take_succ_cons, List.take_zero, List.drop_succ_cons, List.drop_zero, Nat.reduceSub, Act.put, List.setIfInBounds_toArray, List.set_cons_zero, List.set_cons_succ]
   refine tk 0 ?_
   refine tk 2 ?_
   refine tk 3 ?_
   refine tk 4 ?_
   refine tk 5 ?_
   refine tk 6 ?_
   refine tk 7 ?_
   refine tk 8 ?_
   refine tk 9 ?_
   refine tk 10 ?_
   refine tk 11 ?_
   refine tk 12 ?_
   refine tk 13 ?_
   refine tk 15 ?_
   refine tk 16 ?_
   refine tk 17 ?_
   refine tk 18 ?_
   refine tk 19 ?_
   refine tk 20 ?_
   refine tk 21 ?_
   refine tk 22 ?_
   refine tk 23 ?_
   refine tk 24 ?_
   refine tk 25 ?_
   refine tk 26 ?_
   refine cl 14 fun K hK => ?_
   go_simp
   go_at_call 197
   refine (mix_any W5 _ Y X cy cx lx ly p q hp hq hxy (by omega) (hX5.below (bd (b0 _) _)) (hY5.below (bd (b0 _) _)) (bd (b0 _) _)).mono ?_
   rintro e w6 ⟨A6, c6, l6, rfl, hc6, ho6, ht6, hv6, hb6⟩
   have HV6 := Hi hv6
   clear hv6
   have hs6 := hs5.below hb6
   have pb6 := pb5.below hb6
   have hT6 := hT5.below hb6
   have HF6 := Hi (facts6 pb6 hs6 hT6)
   refine hK.out _ _ HF6.out (fun hHeld => ?_)
   clear hK K
   try simp only [Act.put, List.getElem_toArray, List.getElem_cons_zero, List.getElem_cons_succ, List.setIfInBounds_toArray, List.set_cons_zero, List.set_cons_succ]
   refine cl 27 fun K hK => ?_
   go_simp
   go_at_call 197
   refine (mix_any w6 _ Y X cy cx lx ly u v hu hv hxy (by omega) (hX5.below hb6) (hY5.below hb6) (b0 _)).mono ?_
   rintro e w7 ⟨A7, c7, l7, rfl, hc7, ho7, ht7, hv7, hb7⟩
   have HV7 := Hi hv7
   clear hv7
   have hs7 := hs6.below hb7
   have pb7 := pb6.below hb7
   have hT7 := hT6.below hb7
   have HF7 := Hi (facts6 pb7 hs7 hT7)
   refine hK.out _ _ HF7.out (fun hHeld => ?_)
   clear hK K
   try simp only [Act.put, List.getElem_toArray, List.getElem_cons_zero, List.getElem_cons_succ, List.setIfInBounds_toArray, List.set_cons_zero, List.set_cons_succ]
   have f2 := hs7.free 2
   have f3 := hs7.free 3
   have ls7 := hs7.lt
   have lp7 := pb7.lt
   have c5 := pb7.cell
   have e2 := hs7.at_ 2
   have e3 := hs7.at_ 3
   simp at e2 e3
   refine wpAnyH_done (by kernel_rfl) ?_ _
   simp only [HTH]
   have hH0 := c5
   refine tk 28 ?_
   refine tk 29 ?_
   refine cl 30 fun K hK => ?_
   go_simp
   refine hK.out _ _ (pb7.only ((only_refl s w7).set_ (p := ⟨s, 2, none⟩) (.inl rfl) _) hps).cell (fun hHeld => ?_)
   clear hK K
   try simp only [Act.put, List.getElem_toArray, List.getElem_cons_zero, List.getElem_cons_succ, List.setIfInBounds_toArray, List.set_cons_zero, List.set_cons_succ]
   obtain ⟨Wy, hWy⟩ : ∃ W, W = w7.setCell ⟨s, 2, none⟩ (.slice A6 l6.length c6) := ⟨_, rfl⟩
   rw [← hWy] at hHeld ⊢
   have hOy : Only s w7 Wy := by rw [hWy]; exact (only_refl s w7).set_ (p := ⟨s, 2, none⟩) (.inl rfl) _
   have hsy : Cells Wy s 125 #[.slice (some ⟨ga, 0, none⟩) k1 ca, .slice (some ⟨gb, 0, none⟩) k2 cb, .slice A6 l6.length c6, .slice Y ly.length cy, .bool o] := by
    have h := hs7.set_ 2 (.slice A6 l6.length c6)
    simp only [Array.setIfInBounds, List.size_toArray, List.length_cons, List.length_nil] at h
    rw [hWy]; simpa using h
   have pby := pb7.only hOy hps
   clear hWy f2 f3 e2 e3
   have f3 := hsy.free 3
   have e3 := hsy.at_ 3
   simp at e3
   have lsy := hsy.lt
   refine tk 31 ?_
   refine tk 32 ?_
   refine cl 33 fun K hK => ?_
   go_simp
   refine hK.out _ _ (pby.only ((only_refl s Wy).set_ (p := ⟨s, 3, none⟩) (.inl rfl) _) hps).cell (fun hHeld => ?_)
   clear hK K
   try simp only [Act.put, List.getElem_toArray, List.getElem_cons_zero, List.getElem_cons_succ, List.setIfInBounds_toArray, List.set_cons_zero, List.set_cons_succ]
   refine wpAnyH_done (by kernel_rfl) ?_ _
   obtain ⟨W8, hW8⟩ : ∃ W, W = Wy.setCell ⟨s, 3, none⟩ (.slice A7 l7.length c7) := ⟨_, rfl⟩
   rw [← hW8]
   have hO8 : Only s w7 W8 := by rw [hW8]; exact hOy.set_ (p := ⟨s, 3, none⟩) (.inl rfl) _
   have hs8 : Cells W8 s 125 #[.slice (some ⟨ga, 0, none⟩) k1 ca, .slice (some ⟨gb, 0, none⟩) k2 cb, .slice A6 l6.length c6, .slice A7 l7.length c7, .bool o] := by
    have h := hsy.set_ 3 (.slice A7 l7.length c7)
    simp only [Array.setIfInBounds, List.size_toArray, List.length_cons, List.length_nil] at h
    rw [hW8]; simpa using h
   clear hW8
   have pb8 := pb7.only hO8 hps
   clear hHeld hH0 c5 t0 t1 t2 t3 pby hsy f3 e3 lsy lp7 ls7
   have c5 := pb8.cell
   have e4 := hs8.at_ 4
   have f4 := hs8.free 4
   have l8 := hs8.lt
   have l9 := pb8.lt
   simp at e4
   have HE := Hi (show ETurnP a w s (some ⟨ga, 0, none⟩) (some ⟨gb, 0, none⟩) ca cb A1 B1 (val lx * p + val ly * q) (val lx * u + val ly * v) (o != odd) (.returned (.tuple #[])) ((W8.setCell ⟨s, 4, none⟩ (.bool (!o == odd))).drew) from by
    have hO9 : Only s w7 (W8.setCell ⟨s, 4, none⟩ (.bool (!o == odd))).drew := by
     have k := hO8.set_ (p := ⟨s, 4, none⟩) (.inl rfl) (.bool (!o == odd))
     exact ⟨k.os, k.tape, k.output, k.size, k.block⟩
    have hs9 : Cells (W8.setCell ⟨s, 4, none⟩ (.bool (!o == odd))).drew s 125 #[.slice (some ⟨ga, 0, none⟩) k1 ca, .slice (some ⟨gb, 0, none⟩) k2 cb, .slice A6 l6.length c6, .slice A7 l7.length c7, .bool (o != odd)] := by
     have h := hs8.set_ 4 (.bool (!o == odd))
     simp only [Array.setIfInBounds, List.size_toArray, List.length_cons, List.length_nil] at h
     rw [neq_odd]
     have h1 : Cells (W8.setCell ⟨s, 4, none⟩ (.bool (!o == odd))) s 125 #[.slice (some ⟨ga, 0, none⟩) k1 ca, .slice (some ⟨gb, 0, none⟩) k2 cb, .slice A6 l6.length c6, .slice A7 l7.length c7, .bool (!o == odd)] := by simpa using h
     exact h1
    have h67 := bt hb6 hb7
    have ba9 := (ba5.below h67).only hO9 hsa
    have bb9 := (bb5.below h67).only hO9 hsb
    have hsz5 := Nat.le_trans hszd hO5.size
    obtain ⟨t1a, t1b⟩ := HT1.out
    obtain ⟨t2a, t2b⟩ := HT2.out
    obtain ⟨la', rfl, oA, tA, vA⟩ := own_trim hga ba9 (by rw [HLA.out]; exact hna) hk1 t1a t1b
    obtain ⟨lb', rfl, oB, tB, vB⟩ := own_trim hgb bb9 (by rw [HLB.out]; exact hnb) hk2 t2a t2b
    exact ⟨la', lb', A6, c6, l6, A7, c7, l7, rfl, hs9, oA, Nat.le_trans hk1 h.oa.cap, tA, vA.trans HVA.out, oB, Nat.le_trans hk2 h.ob.cap, tB, vB.trans HVB.out,
     hc6, ((ho6.mono hsz5).below hb7).only hO9 (ho6.off_ l7'), ht6, HV6.out, hc7, (ho7.mono (Nat.le_trans hsz5 hb6.size)).only hO9 (ho7.off_ hs6.lt), ht7, HV7.out, bo (bt hel5 h67) hO9 h.low⟩)
   clear hb6 hb7 hs6 hs7 pb6 pb7 hT6 hT7 hO8 hO5 hX5 hY5 ba5 bb5 hel5 hs5 hT5 pb5
   go_upto_region 7 with fail
   go_region_law fail
   all_goals go_wp2_with fail
   all_goals go_end0
   all_goals exact HE.out
open Go.RowKit
variable {la lb lx ly : List Nat} {o odd : Bool} {s x y : Nat}
theorem guess_ts {x y p q u v n : Nat} (hq : 0 < q) (hx2 : x < 2 ^ (n + 62)) (h : ∃ x' y', GI (x / 2 ^ n) (y / 2 ^ n) x' y' p q u v odd ∧ v ≤ y' ∧ q + v ≤ x' - y') :
  (∃ A B, TS x y A B p q u v odd ∧ 0 < B ∧ B < A) ∧ p < 2147483648 ∧ q < 2147483648 ∧ u < 2147483648 ∧ v < 2147483648 := by
 obtain ⟨x', y', hG, h1, h2⟩ := h
 have hp := Nat.two_pow_pos n
 obtain ⟨A, B, hT, hB, hBA⟩ := lehmer hG hq h1 h2 (Nat.mod_lt x hp) (Nat.mod_lt y hp)
 rw [Nat.mul_comm, Nat.div_add_mod, Nat.mul_comm, Nat.div_add_mod] at hT
 have hx : x / 2 ^ n < 4611686018427387904 := Nat.div_lt_of_lt_mul (by rw [show (4611686018427387904 : Nat) = 2 ^ 62 from rfl, ← Nat.pow_add]; exact hx2)
 exact ⟨⟨A, B, hT, hB, hBA⟩, hG.bound hx hq h1 h2⟩
theorem div_ts (hy : 0 < y) (h : y ≤ x) : TS x y y (x % y) 0 1 1 (x / y) true := TS.one (by rw [Nat.mul_comm]; exact (Nat.div_add_mod x y).symm) (Nat.div_pos h hy) (Nat.mod_lt x hy)
theorem ES.below {a W W' : World} {A B X Y : Option Addr} {ca cb cx cy : Nat} (h : ES a W s A B X Y ca cb cx cy la lb lx ly o) (hb : Below W.heap.size W W') : ES a W' s A B X Y ca cb cx cy la lb lx ly o :=
 ⟨h.cells.below hb, h.oa.below hb, h.ob.below hb, h.ox.below hb, h.oy.below hb, h.ab, h.ax, h.ay, h.bx, h.by_, h.low, bt h.bel hb⟩
theorem TS.lt_b {a0 b0 a b p q u v : Nat} (h : TS a0 b0 a b p q u v odd) (hq : 0 < q) (hba : b < a) : b < b0 := by
 have h2 := h.h2
 rcases h.h4 with ⟨rfl, rfl, rfl, rfl⟩ | ⟨_, _, _, h8, _⟩
 ·omega
 ·have := Nat.le_mul_of_pos_left a h8
  omega
theorem step_parts {a w' : World} {s a0 b0 y0 : Nat} {A' B' X' Y' : Option Addr} {ca' cb' cx' cy' : Nat} {la lb lx ly la' lb' lx' ly' : List Nat} {p q u v p2 q2 u2 v2 : Nat} {odd o2 o' : Bool}
  (ht : TS a0 b0 (val la) (val lb) p q u v odd) (hd : Desc a0 b0 (val la) (val lb) p q u v odd) (hx : val lx = y0 * q) (hy : val ly = y0 * v)
  (h' : ES a w' s A' B' X' Y' ca' cb' cx' cy' la' lb' lx' ly' o') (ho : o' = ((o != odd) != o2)) (k : TS (val la) (val lb) (val la') (val lb') p2 q2 u2 v2 o2) (hlt : val lb' < val la') (hx' : val lx' = val lx * p2 + val ly * q2) (hy' : val ly' = val lx * u2 + val ly * v2) :
  ES a w' s A' B' X' Y' ca' cb' cx' cy' la' lb' lx' ly' (o != (odd != o2)) ∧ TS a0 b0 (val la') (val lb') (p2 * p + q2 * u) (p2 * q + q2 * v) (u2 * p + v2 * u) (u2 * q + v2 * v) (odd != o2) ∧ Desc a0 b0 (val la') (val lb') (p2 * p + q2 * u) (p2 * q + q2 * v) (u2 * p + v2 * u) (u2 * q + v2 * v) (odd != o2) ∧ val lx' = y0 * (p2 * q + q2 * v) ∧ val ly' = y0 * (u2 * q + v2 * v) := by
 subst ho
 rw [bne_assoc] at h'
 exact ⟨h', ht.more hd k, .inl hlt, by rw [hx', cof0 hx hy], by rw [hy', cof0 hx hy]⟩
def GT (w : World) (x0 y0 : Nat) (s2 s3 : Value) (W : World) : Prop :=
 ∃ (T p q u v : Nat) (odd : Bool), s2 = .pointer (some ⟨T, 0, none⟩) ∧ s3 = .bool odd ∧ Cells W T 150 #[.int .u64 (p : Int), .int .u64 (q : Int), .int .u64 (u : Int), .int .u64 (v : Int)] ∧
  (0 < q → ∃ x y, GI x0 y0 x y p q u v odd ∧ v ≤ y ∧ q + v ≤ x - y) ∧ Below w.heap.size w W
theorem m0ce1d {P : Prop} (h : P := by
 have he : e = .returned (.tuple #[]) := by obtain ⟨_, _, _, _, _, _, _, _, _, _, _, _, _, _, _, _, _, h1, _⟩ := hG; exact h1
 subst he
 clear hf
 have HG := Hi hG
 clear hG
 go_wp2_with fail
 go_end0
 exact HG.out) : P := h
theorem run_any (a w : World) (s y0 : Nat) (A B X Y : Option Addr) (ca cb cx cy : Nat) (la lb lx ly : List Nat) (o : Bool) (h : ES a w s A B X Y ca cb cx cy la lb lx ly o) (hla : la.length ≤ 300000) (hlt : val lb ≤ val la) (hx : val lx = 0) (hy : val ly = y0) (hy1 : y0 ≤ 1) :
  Calls Tryz.prog 151 #[.pointer (some ⟨s, 0, none⟩)] w (RunG a s (val la) (val lb) y0 o) := by
 obtain ⟨a0, ha0⟩ : ∃ x, x = val la := ⟨_, rfl⟩
 obtain ⟨b0', hb0⟩ : ∃ x, x = val lb := ⟨_, rfl⟩
 obtain ⟨n0, hn0⟩ : ∃ x, x = la.length := ⟨_, rfl⟩
 have hN : a0 < BB n0 := by rw [ha0, hn0]; exact val_lt h.oa.ws.1
 rw [← hn0] at hla
 have hst : RunI a s a0 b0' y0 o w := ⟨A, B, X, Y, ca, cb, cx, cy, la, lb, lx, ly, 1, 0, 0, 1, false, by simpa using h, by rw [← ha0, ← hb0]; exact TS.start _ _, .inr ⟨ha0, hb0, rfl, rfl, rfl, rfl, rfl⟩, by rw [hx]; simp, by rw [hy]; simp⟩
 rw [← ha0, ← hb0] at hlt ⊢
 have HST := Hi hst
 have HN := Hi hN
 clear hst hN ha0 hb0 h hx hy hn0
 go_enter Tryz.func151, Tryz.ntmps151
 go_wp2_with fail
 go_loopw [] (fun wr => RunI a s a0 b0' y0 o wr) (fun wr => bv s wr)
 case atStart => exact HST.out
 case round =>
  obtain ⟨A, B, X, Y, ca, cb, cx, cy, la, lb, lx, ly, p, q, u, v, odd, h, ht, hd, hx, hy⟩ := hrel
  have hle := hd.le hlt
  have HT := Hi ht
  have HD := Hi hd
  have HX := Hi hx
  have HY := Hi hy
  have hs := h.cells
  have e0 := hs.at_ 0
  have e1 := hs.at_ 1
  simp at e0 e1
  have hla3 : la.length ≤ n0 := top_len h.oa.top (Nat.lt_of_le_of_lt ht.le_a HN.out)
  have hlab : lb.length ≤ la.length := top_len h.ob.top (Nat.lt_of_le_of_lt hle (val_lt h.oa.ws.1))
  have hlxy : lx.length ≤ ly.length := top_len h.ox.top (Nat.lt_of_le_of_lt (by rw [hx, hy]; exact Nat.mul_le_mul_left _ ht.q_le) (val_lt h.oy.ws.1))
  have hlsz := hs.lt
  clear ht hd hx hy
  by_cases hl : 2 < lb.length
  ·have hly : ly.length ≤ n0 := top_len h.oy.top (by
    rw [HY.out]
    have h1 := HT.out.le_v (Nat.lt_of_lt_of_le (val_pos h.ob.top (by omega)) hle)
    have h2 := Nat.mul_le_mul_right v hy1
    have h3 := HN.out
    refine Nat.lt_of_le_of_lt ?_ h3
    omega)
   have hlb0 : lb ≠ [] := fun h0 => by rw [h0] at hl; simp at hl
   have hli : (2 : Int) < (lb.length : Int) := by omega
   have HB : Hid (∀ W, Below wr.heap.size wr W → W.cell? ⟨s, 0, none⟩ = some (.slice A la.length ca) ∧ W.cell? ⟨s, 1, none⟩ = some (.slice B lb.length cb)) := fun W hW => by
    have k := hs.below hW
    have k0 := k.at_ 0
    have k1 := k.at_ 1
    simp at k0 k1
    exact ⟨k0, k1⟩
   go_upto_region 1 with fail
   go_cut [2, 3] (fun s2 s3 wx => GT wr (val la / 2 ^ (bl la - 62)) (val lb / 2 ^ (bl la - 62)) s2 s3 wx)
   case first =>
    go_region_held3 (fun W => W.cell? ⟨s, 0, none⟩ = some (.slice A la.length ca) ∧ W.cell? ⟨s, 1, none⟩ = some (.slice B lb.length cb))
     (first | exact HB.out _ (bw (b0 _)) | exact HB.out _ (ba (bw (b0 _)) _) | exact HB.out _ (bt (bw (b0 _)) hb3) | exact HB.out _ (bt (ba (bw (b0 _)) _) hb3) | exact HB.out _ (ba (bt (bw (b0 _)) hb3) _) | exact HB.out _ (bs (bs (bs (bs (bt (ba (bw (b0 _)) _) hb3) (Nat.le_refl _) _) (Nat.le_refl _) _) (Nat.le_refl _) _) (Nat.le_refl _) _) | go_keep)
     (first
      | (go_at_call 175; refine (guessTurn_any _ A B ca cb la lb (by omega) (by omega) (by omega) (by omega) h.oa.cap h.ob.cap h.oa.top hle (h.oa.ws.below (by first | exact bw (b0 _) | exact ba (bw (b0 _)) _)) (h.ob.ws.below (by first | exact bw (b0 _) | exact ba (bw (b0 _)) _))).mono ?_; rintro e w3 ⟨p', q', u', v', odd', rfl, hg3, hb3⟩; have HG3 := Hi hg3; clear hg3; (try (have hT3 : Cells w3 wr.heap.size 150 #[.int .u64 0, .int .u64 0, .int .u64 0, .int .u64 0] := (show Cells (wr.drew.alloc (.cells #[.int .u64 0, .int .u64 0, .int .u64 0, .int .u64 0] 150)) wr.heap.size 150 #[.int .u64 0, .int .u64 0, .int .u64 0, .int .u64 0] from Cells.new wr.drew _ _).below hb3; have t0 := hT3.at_ 0; have t1 := hT3.at_ 1; have t2 := hT3.at_ 2; have t3 := hT3.at_ 3; simp at t0 t1 t2 t3; have g0 := hT3.free 0; have g1 := hT3.free 1; have g2 := hT3.free 2; have g3 := hT3.free 3; have gl := hT3.lt))))
    ·go_wp2_with fail
     go_meet
     exact ⟨w3.heap.size, p', q', u', v', odd', rfl, rfl, Cells.new w3 _ _, HG3.out, ba (bt (bw (b0 _)) hb3) _⟩
    ·go_wp2_with fail
     go_meet
     have k4 := (((hT3.set_ 0 (.int .u64 (p' : Int))).set_ 1 (.int .u64 (q' : Int))).set_ 2 (.int .u64 (u' : Int))).set_ 3 (.int .u64 (v' : Int))
     simp only [Array.setIfInBounds, List.size_toArray, List.length_cons, List.length_nil] at k4
     exact ⟨wr.heap.size, p', q', u', v', odd', rfl, rfl, by simpa using k4, HG3.out, bs (bs (bs (bs (bt (ba (bw (b0 _)) _) hb3) (Nat.le_refl _) _) (Nat.le_refl _) _) (Nat.le_refl _) _) (Nat.le_refl _) _⟩
   case rest =>
    obtain ⟨T, p2, q2, u2, v2, o2, rfl, rfl, hT, hg, hb1⟩ := hcut
    obtain ⟨W1, hW1⟩ : ∃ v, v = wc := ⟨_, rfl⟩
    rw [← hW1] at hT hb1 ⊢
    clear hW1 wc
    have h1 := h.below hb1
    have HG := Hi hg
    have HM := Hi (show bv s wr = val lb from bv_eq e1 h.ob.own)
    have t0 := hT.at_ 0
    have t1 := hT.at_ 1
    have t2 := hT.at_ 2
    have t3 := hT.at_ 3
    simp at t0 t1 t2 t3
    clear hg HB e0 e1 hs h
    by_cases hq : q2 = 0
    ·subst hq
     go_wp2_with fail
     refine (eucDivide_any a W1 s A B X Y ca cb cx cy la lb lx ly (o != odd) (by omega) (by omega) (by omega) (by omega) (by omega) h1.oa.top h1.ob.top h1.oy.cap h1.cells h1.oa.own h1.ob.own h1.ox.own h1.oy.own).mono ?_
     intro e w' hd
     obtain ⟨R, cr, lr, Z, cz, lz, rfl, h2, vR, vZ⟩ := h1.div hd
     have HR := Hi vR
     have HZ := Hi vZ
     have hlp : 0 < val lb := val_pos h1.ob.top (by omega)
     have HLT := Hi (Nat.mod_lt (val la) hlp)
     clear vR vZ hd
     go_wp2_with fail
     go_roundw
     case rel =>
      exact RunI.step h1 HT.out HD.out HX.out HY.out h2 (o2 := true) (p2 := 0) (q2 := 1) (u2 := 1) (v2 := val la / val lb) (by cases o <;> cases odd <;> rfl) (by rw [HR.out]; exact div_ts hlp hle) (by rw [HR.out]; exact HLT.out) (by simp) (by rw [HZ.out, Nat.mul_one, Nat.mul_comm (val ly)])
     case measure =>
      have k1 := h2.cells.at_ 1
      simp at k1
      rw [HM.out, bv_eq k1 h2.ob.own, HR.out]
      exact HLT.out
    ·have hqp : 0 < q2 := Nat.pos_of_ne_zero hq
     have hqz : ((q2 : Int) == 0) = false := beq_eq_false_iff_ne.2 (by omega)
     obtain ⟨g1, g2, g3, g4⟩ := bl_bound h1.oa.ws.1 h1.oa.top (by omega)
     obtain ⟨⟨A1, B1, hTS, hB0, hBA⟩, hp', hq', hu', hv'⟩ := guess_ts hqp (by rw [show bl la - 62 + 62 = bl la by omega]; exact g1) (HG.out hqp)
     have hla0 : la ≠ [] := fun h0 => by rw [h0] at hlab; simp at hlab; exact hlb0 hlab
     have HTS := Hi hTS
     have HLB := Hi (hTS.lt_b hqp hBA)
     clear hTS g1 g2 hq
     go_wp2_with fail
     refine (turn_any a W1 s A B X Y ca cb cx cy la lb lx ly (o != odd) o2 p2 q2 u2 v2 A1 B1 hp' hq' hu' hv' h1 hlb0 hlab (by omega) (by omega) hlxy HTS.out (Nat.le_of_lt hBA)).mono ?_
     intro e w' hd
     obtain ⟨la', lb', X', cx', lx', Y', cy', ly', rfl, h2, vA, vB, vX, vY⟩ := h1.turn hla0 hlb0 hd
     have HA := Hi vA
     have HB' := Hi vB
     have HVX := Hi vX
     have HVY := Hi vY
     clear vA vB vX vY hd
     go_wp2_with fail
     go_roundw
     case rel =>
      exact RunI.step h1 HT.out HD.out HX.out HY.out h2 rfl (by rw [HA.out, HB'.out]; exact HTS.out) (by rw [HA.out, HB'.out]; exact hBA) HVX.out HVY.out
     case measure =>
      have k1 := h2.cells.at_ 1
      simp at k1
      rw [HM.out, bv_eq k1 h2.ob.own, HB'.out]
      exact HLB.out
  ·have hlo : ¬ (2 : Int) < (lb.length : Int) := by omega
   by_cases hlb0 : lb = []
   ·subst hlb0
    go_wp2_with fail
    go_end0
    exact RunI.none_ h HT.out HX.out HY.out
   ·have hlp : (0 : Int) < (lb.length : Int) := by have := List.length_pos_iff.2 hlb0; omega
    have hvb : 0 < val lb := val_pos h.ob.top (by omega)
    by_cases hla2 : 2 < la.length
    ·have hl2i : (2 : Int) < (la.length : Int) := by omega
     have hly : ly.length ≤ n0 := top_len h.oy.top (by
      rw [HY.out]
      have h1 := HT.out.le_v (Nat.lt_of_lt_of_le hvb hle)
      have h2 := Nat.mul_le_mul_right v hy1
      have h3 := HN.out
      refine Nat.lt_of_le_of_lt ?_ h3
      omega)
     go_wp2_with fail
     refine (eucDivide_any a wr s A B X Y ca cb cx cy la lb lx ly (o != odd) (by omega) (by omega) (by omega) (by omega) (by omega) h.oa.top h.ob.top h.oy.cap h.cells h.oa.own h.ob.own h.ox.own h.oy.own).mono ?_
     intro e w' hd
     obtain ⟨R, cr, lr, Z, cz, lz, rfl, h2, vR, vZ⟩ := h.div hd
     have hmod := Nat.mod_lt (val la) hvb
     obtain ⟨h3, ht3, hd3, hx3, hy3⟩ := step_parts (o := o) (odd := odd) HT.out HD.out HX.out HY.out h2 (o2 := true) (p2 := 0) (q2 := 1) (u2 := 1) (v2 := val la / val lb) (by cases o <;> cases odd <;> rfl) (by rw [vR]; exact div_ts hvb hle) (by rw [vR]; exact hmod) (by simp) (by rw [vZ, Nat.mul_one, Nat.mul_comm (val ly)])
     have hlr : lr.length ≤ lb.length := top_len h3.ob.top (by rw [vR]; exact Nat.lt_trans hmod (val_lt h.ob.ws.1))
     have hlrv : val lr ≤ val lb := by rw [vR]; exact Nat.le_of_lt hmod
     have hlz : lz.length ≤ n0 := top_len h3.oy.top (by
      rw [hy3]
      have h1 := ht3.le_v hvb
      have h2 := Nat.mul_le_mul_right (1 * q + val la / val lb * v) hy1
      have h3 := HN.out
      refine Nat.lt_of_le_of_lt ?_ h3
      omega)
     have HT3 := Hi ht3
     have HD3 := Hi hd3
     have HX3 := Hi hx3
     have HY3 := Hi hy3
     have k1 := h3.cells.at_ 1
     simp at k1
     clear vR vZ ht3 hd3 hx3 hy3 hd hmod h2 e0 e1 hs h
     by_cases hlr0 : lr = []
     ·subst hlr0
      go_wp2_with fail
      go_end0
      exact RunI.none_ h3 HT3.out HX3.out HY3.out
     ·have hlrp : (0 : Int) < (lr.length : Int) := by have := List.length_pos_iff.2 hlr0; omega
      go_wp2_with fail
      refine (finish_any w' s B R Y Z cb cr cy cz lb lr ly lz (o != (odd != true)) (by omega) (by omega) (by omega) (by omega) hlrv hvb h3.cells h3.oa.ws h3.ob.ws h3.ox.ws h3.oy.ws).mono ?_
      intro e w'' hf
      have hG := RunI.fin h3 HT3.out HD3.out HX3.out HY3.out hf
      exact m0ce1d
    ·have hl2i : ¬ (2 : Int) < (la.length : Int) := by omega
     have hly : ly.length ≤ n0 := top_len h.oy.top (by
      rw [HY.out]
      have h1 := HT.out.le_v (Nat.lt_of_lt_of_le hvb hle)
      have h2 := Nat.mul_le_mul_right v hy1
      have h3 := HN.out
      refine Nat.lt_of_le_of_lt ?_ h3
      omega)
     go_wp2_with fail
     refine (finish_any wr s A B X Y ca cb cx cy la lb lx ly (o != odd) (by omega) (by omega) (by omega) (by omega) hle (by omega) h.cells h.oa.ws h.ob.ws h.ox.ws h.oy.ws).mono ?_
     intro e w'' hf
     have hG := RunI.fin h HT.out HD.out HX.out HY.out hf
     exact m0ce1d
open Go.RowKit
theorem divisorA_le (w : World) (A B : Option Addr) (n c m d : Nat) (l k : List Nat) (hn : l.length = n) (hm : k.length = m) (hn2 : n ≤ 300000) (hm2 : m ≤ 300000) (tl : Top l) (tk : Top k) (hl : WS w A l) (hk : WS w B k) (hle : val k ≤ val l) :
  Calls Tryz.prog 103 #[.slice A n c, .slice B m d] w (Res w (Nat.gcd (val l) (val k))) := by
 subst hn hm
 have HC := Hi (compare_any A B l.length c k.length d l k w rfl rfl (by omega) (by omega) tl tk hl hk)
 have hcmp : ((cmpN (val l) (val k) : Int) < 0) = False := by unfold cmpN; split <;> simp <;> omega
 go_enter Tryz.func103, Tryz.ntmps103
 go_wp2_with fail
 refine HC.out.mono ?_
 rintro e w1 ⟨rfl, hb1⟩
 go_wp2_with fail
 refine (own_any w1 w1 A l.length c l rfl (by omega) (hl.below hb1) (b0 _)).mono ?_
 rintro e w2 ⟨g1, rfl, hg1, hk1, hb2⟩
 go_wp2_with fail
 refine (own_any w2 w2 B k.length d k rfl (by omega) ((hk.below hb1).below hb2) (b0 _)).mono ?_
 rintro e w3 ⟨g2, rfl, hg2, hk2, hb3⟩
 go_wp2_with fail
 have hw3 : Below w.heap.size w w3 := bt (bt hb1 hb2) hb3
 have hk1' := (hk1.below hb3).below (ba (b0 w3) (.cells #[.slice (some ⟨g1, 0, none⟩) l.length l.length, .slice (some ⟨g2, 0, none⟩) k.length k.length, .slice none 0 0, .slice none 0 0, .bool false] 125))
 have hk2' := hk2.below (ba (b0 w3) (.cells #[.slice (some ⟨g1, 0, none⟩) l.length l.length, .slice (some ⟨g2, 0, none⟩) k.length k.length, .slice none 0 0, .slice none 0 0, .bool false] 125))
 have hs1 := hb1.size
 have hs2 := hb2.size
 refine (run_any w _ w3.heap.size 0 _ _ none none l.length k.length 0 0 l k [] [] false ⟨euc_new _ _, ⟨own_of_blk (by omega) hk1', tl, Nat.le_refl _⟩, ⟨own_of_blk (by omega) hk2', tk, Nat.le_refl _⟩, Own.nil_ _ _ _ _, Own.nil_ _ _ _ _, Dj.fresh (own_of_blk (a := w1) hg1 hk1).ws (own_of_blk (a := w2) hg2 hk2) (Nat.le_refl _), Dj.nil_r _ _ _, Dj.nil_r _ _ _, Dj.nil_r _ _ _, Dj.nil_r _ _ _, hw3.size, ba hw3 _⟩ (by omega) hle rfl rfl (by omega)).mono ?_
 rintro e w5 ⟨g, p, q, u, v, odd, A', B', X', Y', ca', cb', cx', cy', la', lx', ly', rfl, hTR, oA', va', hs5, _, _, _, _, hbel⟩
 have hg := hTR.gcd
 have z0 := hs5.at_ 0
 simp at z0
 go_wp2_with fail
 go_returns
 exact ⟨A', ca', la', rfl, oA'.cap, oA'.own, oA'.top, by rw [va', hg], hbel⟩
theorem divisorA_lt (w : World) (A B : Option Addr) (n c m d : Nat) (l k : List Nat) (hn : l.length = n) (hm : k.length = m) (hn2 : n ≤ 300000) (hm2 : m ≤ 300000) (tl : Top l) (tk : Top k) (hl : WS w A l) (hk : WS w B k) (hle : val l < val k) :
  Calls Tryz.prog 103 #[.slice A n c, .slice B m d] w (Res w (Nat.gcd (val l) (val k))) := by
 subst hn hm
 have HC := Hi (compare_any A B l.length c k.length d l k w rfl rfl (by omega) (by omega) tl tk hl hk)
 have hcmp : ((cmpN (val l) (val k) : Int) < 0) = True := by unfold cmpN; split <;> simp <;> omega
 go_enter Tryz.func103, Tryz.ntmps103
 go_wp2_with fail
 refine HC.out.mono ?_
 rintro e w1 ⟨rfl, hb1⟩
 go_wp2_with fail
 refine (own_any w1 w1 B k.length d k rfl (by omega) (hk.below hb1) (b0 _)).mono ?_
 rintro e w2 ⟨g1, rfl, hg1, hk1, hb2⟩
 go_wp2_with fail
 refine (own_any w2 w2 A l.length c l rfl (by omega) ((hl.below hb1).below hb2) (b0 _)).mono ?_
 rintro e w3 ⟨g2, rfl, hg2, hk2, hb3⟩
 go_wp2_with fail
 have hw3 : Below w.heap.size w w3 := bt (bt hb1 hb2) hb3
 have hk1' := (hk1.below hb3).below (ba (b0 w3) (.cells #[.slice (some ⟨g1, 0, none⟩) k.length k.length, .slice (some ⟨g2, 0, none⟩) l.length l.length, .slice none 0 0, .slice none 0 0, .bool false] 125))
 have hk2' := hk2.below (ba (b0 w3) (.cells #[.slice (some ⟨g1, 0, none⟩) k.length k.length, .slice (some ⟨g2, 0, none⟩) l.length l.length, .slice none 0 0, .slice none 0 0, .bool false] 125))
 have hs1 := hb1.size
 have hs2 := hb2.size
 refine (run_any w _ w3.heap.size 0 _ _ none none k.length l.length 0 0 k l [] [] false ⟨euc_new _ _, ⟨own_of_blk (by omega) hk1', tk, Nat.le_refl _⟩, ⟨own_of_blk (by omega) hk2', tl, Nat.le_refl _⟩, Own.nil_ _ _ _ _, Own.nil_ _ _ _ _, Dj.fresh (own_of_blk (a := w1) hg1 hk1).ws (own_of_blk (a := w2) hg2 hk2) (Nat.le_refl _), Dj.nil_r _ _ _, Dj.nil_r _ _ _, Dj.nil_r _ _ _, Dj.nil_r _ _ _, hw3.size, ba hw3 _⟩ (by omega) (Nat.le_of_lt hle) rfl rfl (by omega)).mono ?_
 rintro e w5 ⟨g, p, q, u, v, odd, A', B', X', Y', ca', cb', cx', cy', la', lx', ly', rfl, hTR, oA', va', hs5, _, _, _, _, hbel⟩
 have hg := hTR.gcd
 have z0 := hs5.at_ 0
 simp at z0
 go_wp2_with fail
 go_returns
 exact ⟨A', ca', la', rfl, oA'.cap, oA'.own, oA'.top, by rw [va', ← hg, Nat.gcd_comm], hbel⟩
theorem divisor_any (w : World) (A B : Option Addr) (n c m d : Nat) (l k : List Nat) (hn : l.length = n) (hm : k.length = m) (hn2 : n ≤ 300000) (hm2 : m ≤ 300000) (tl : Top l) (tk : Top k) (hl : WS w A l) (hk : WS w B k) :
  Calls Tryz.prog 103 #[.slice A n c, .slice B m d] w (Res w (Nat.gcd (val l) (val k))) := by
 rcases Nat.lt_or_ge (val l) (val k) with h | h
 ·exact divisorA_lt w A B n c m d l k hn hm hn2 hm2 tl tk hl hk h
 ·exact divisorA_le w A B n c m d l k hn hm hn2 hm2 tl tk hl hk h
theorem Gcd_any (a w : World) (na nb : Bool) (A B : Option Addr) (n c m d : Nat) (l k : List Nat) (p q : Bool) (hn : l.length = n) (hm : k.length = m) (hnm : n ≤ 300000) (hmm : m ≤ 300000) (hl : WS w A l) (hk : WS w B k) (hp : isB na l = p) (hq : isB nb k = q) (hw : Below a.heap.size a w) :
  Calls Tryz.prog 24 #[.agg #[.bool na, .slice A n c], .agg #[.bool nb, .slice B m d]] w (IRes a (ite0 (p && q) (Nat.gcd (val l) (val k) : Nat))) := by
 subst hn hm
 have HP := Hi hp
 have HQ := Hi hq
 clear hp hq
 by_cases hpq : (p && q) = true
 ·obtain ⟨rfl, rfl⟩ : p = true ∧ q = true := by simpa using hpq
  clear hpq
  rw [show ite0 (true && true) ((Nat.gcd (val l) (val k) : Nat) : Int) = ((Nat.gcd (val l) (val k) : Nat) : Int) from rfl]
  go_enter Tryz.func24, Tryz.ntmps24
  go_wp2_with fail
  refine (both_any na nb A B _ c _ d l k true true _ rfl rfl (by omega) (by omega) (hl.below (ba (ba (ba (b0 _) _) _) _)) (hk.below (ba (ba (ba (b0 _) _) _) _)) HP.out HQ.out).mono ?_
  rintro e w1 ⟨rfl, hb⟩
  have hbx := (Box2.new ((w.alloc (.cells #[.bool na, .slice A l.length c] 24)).alloc (.cells #[.bool nb, .slice B k.length d] 24)) (.bool false) (.slice none 0 0)).below hb
  rw [World.size_alloc, World.size_alloc] at hbx
  have hby := (((Box2.new w (.bool na) (.slice A l.length c)).alloc (.cells #[.bool nb, .slice B k.length d] 24)).alloc (.cells #[.bool false, .slice none 0 0] 24)).below hb
  have hbz := ((Box2.new (w.alloc (.cells #[.bool na, .slice A l.length c] 24)) (.bool nb) (.slice B k.length d)).alloc (.cells #[.bool false, .slice none 0 0] 24)).below hb
  rw [World.size_alloc] at hbz
  obtain ⟨y0, y1⟩ := hby.cs
  obtain ⟨y2, y3⟩ := hbz.cs
  have hl1 : WS w1 A l := hl.below (bt (ba (ba (ba (b0 _) _) _) _) hb)
  have hk1 : WS w1 B k := hk.below (bt (ba (ba (ba (b0 _) _) _) _) hb)
  go_wp2_with fail
  refine (divisor_any w1 A B l.length c k.length d l k rfl rfl hnm hmm (isB_top HP.out) (isB_top HQ.out) hl1 hk1).mono ?_
  rintro e w2 ⟨A1, c1, l1, rfl, hlc1, ho1, ht1, hv1, hb2⟩
  have hlen1 : l1.length ≤ l.length + k.length := top_len ht1 (by
   rw [hv1]
   have e1 : val l < BB (l.length + k.length) := Nat.lt_of_lt_of_le (val_lt hl.1) (BB_mono (by omega))
   have e2 : val k < BB (l.length + k.length) := Nat.lt_of_lt_of_le (val_lt hk.1) (BB_mono (by omega))
   rcases Nat.eq_zero_or_pos (val l) with h0 | h0
   ·rw [h0, Nat.gcd_zero_left]; exact e2
   ·exact Nat.lt_of_le_of_lt (Nat.gcd_le_left (val k) h0) e1)
  have HV1 := Hi hv1
  clear hv1
  go_wp2_with fail
  refine (signed_res w1 _ false A1 c1 l1 (by omega) hlc1 ho1 ht1 hb2).mono ?_
  rintro e w3 ⟨ng, A3, c3, l3, rfl, hc3, hl3, hB3, hz3, hb3⟩
  have HZ3 := Hi hz3
  have HB3 := Hi hB3
  clear hz3 hB3
  have hbx3 := hbx.below hb3
  obtain ⟨x0, x1⟩ := hbx3.cs
  have f0 := hbx3.free 0
  have f1 := hbx3.free 1
  obtain ⟨k0, k1, k2⟩ := hbx3.back (.bool ng) (.slice A3 l3.length c3)
  go_wp2_with fail
  refine bodyPost_ret (v := .agg #[.bool ng, .slice A3 l3.length c3]) (by simp [results, Tryz.results24, go_sem, k0, k2]) rfl ?_
  refine ires_store hw (bt (ba (ba (ba (b0 _) _) _) _) hb) (by have := hb.size; simp at this; omega) (by omega) hc3 hl3 HB3.out ?_ hb3
  rw [HZ3.out]
  unfold zI
  rw [HV1.out]
  simp
 ·have hf : (p && q) = false := by simpa using hpq
  rw [hf, show ite0 false ((Nat.gcd (val l) (val k) : Nat) : Int) = 0 from rfl]
  have HF := Hi hf
  clear hpq hf
  go_enter Tryz.func24, Tryz.ntmps24
  go_wp2_with fail
  refine (both_any na nb A B _ c _ d l k p q _ rfl rfl (by omega) (by omega) (hl.below (ba (ba (ba (b0 _) _) _) _)) (hk.below (ba (ba (ba (b0 _) _) _) _)) HP.out HQ.out).mono ?_
  rintro e w1 ⟨rfl, hb⟩
  rw [HF.out]
  have hbx := (Box2.new ((w.alloc (.cells #[.bool na, .slice A l.length c] 24)).alloc (.cells #[.bool nb, .slice B k.length d] 24)) (.bool false) (.slice none 0 0)).below hb
  rw [World.size_alloc, World.size_alloc] at hbx
  obtain ⟨q0, q1⟩ := hbx.cs
  have f0 := hbx.free 0
  have f1 := hbx.free 1
  obtain ⟨k0, k1, k2⟩ := hbx.back (.bool false) (.slice none 0 0)
  go_wp2_with fail
  refine bodyPost_ret (v := .agg #[.bool false, .slice none 0 0]) (by simp [results, Tryz.results24, go_sem, k0, k2]) rfl ?_
  exact mb4718
open Go.RowKit
open Go.RowKit
open Go.RowKit
variable {A B : Option Addr} {c d i : Nat} {k l : List Nat} {m n : Bool} {w : World} {x y z : Int}
theorem zI_zero (hB : isB n l = true) : zI n l = 0 ↔ l.length = 0 := by
 have h := val_eq_zero (isB_top hB)
 rw [← h]
 unfold zI
 cases n <;> simp
theorem lt_ediv (h : Lt i x) : Lt i (x / y) := Nat.lt_of_le_of_lt (Int.natAbs_ediv_le_natAbs x y) h
theorem lt_emod (hy : y ≠ 0) (h : Lt i y) : Lt i (x % y) := by
 have h1 := Int.emod_nonneg x hy
 have h2 := Int.emod_lt x hy
 unfold Lt at *
 omega
def RDIV (w : World) (q r : Int) (e : Ending) (w' : World) : Prop :=
 ∃ n1 A1 c1 l1 n2 A2 c2 l2, e = .returned (.tuple #[.agg #[.bool n1, .slice A1 l1.length c1], .agg #[.bool n2, .slice A2 l2.length c2], .int .i64 0]) ∧ IV w' n1 A1 c1 l1 q ∧ IV w' n2 A2 c2 l2 r ∧ Below w.heap.size w w'
theorem IP.iv {a w' : World} (h : IP a w' n A c l z) (hlt : Lt 2100 z) : IV w' n A c l z := .of h.1 h.2.1.ws h.2.2.1 h.2.2.2 hlt
theorem Div_iv {x y q r : Int} (h : IV w n A c l x) (h2 : IV w m B d k y) (hy : y ≠ 0) (hq : x / y = q) (hr : x % y = r) (h1 : Lt 2100 q) (h3 : Lt 2100 r) :
  Calls Tryz.prog 13 #[.agg #[.bool n, .slice A l.length c], .agg #[.bool m, .slice B k.length d]] w (RDIV w q r) := by
 have e1 := h.len
 have e2 := h2.len
 have hk0 : 0 < k.length := Nat.pos_of_ne_zero (fun e => hy (by rw [← h2.val]; exact (zI_zero h2.can).2 e))
 refine (Div_any w w n m A B c d l k (by omega) (by omega) h.ws h2.ws h.can h2.can hk0 (b0 _)).mono ?_
 rintro e w' ⟨n1, A1, c1, l1, n2, A2, c2, l2, rfl, i1, i2, hb⟩
 rw [h.val, h2.val, hq] at i1
 rw [h.val, h2.val, hr] at i2
 exact ⟨n1, A1, c1, l1, n2, A2, c2, l2, rfl, i1.iv h1, i2.iv h3, hb⟩
open Go.RowKit
variable {A B : Option Addr} {c d i : Nat} {k l : List Nat} {m n : Bool} {w : World} {x y z : Int}
theorem m859f2 {P : Prop} (h : P := by
 have e1 := h.len
 have e2 := h2.len
 refine (Gcd_any w w n m A B l.length c k.length d l k true true rfl rfl (by omega) (by omega) h.ws h2.ws h.can h2.can (b0 _)).mono fun e w' hr => hr.iv ?_ hlt
 rw [val_abs h.val, val_abs h2.val]; exact hz) : P := h
theorem Gcd_iv (h : IV w n A c l x) (h2 : IV w m B d k y) (hz : ((Nat.gcd x.natAbs y.natAbs : Nat) : Int) = z) (hlt : Lt 2100 z) :
  Calls Tryz.prog 24 #[.agg #[.bool n, .slice A l.length c], .agg #[.bool m, .slice B k.length d]] w (RIV w z) := by
 exact m859f2
theorem lt_zero (i : Nat) : Lt i 0 := by unfold Lt; exact BB_pos i
theorem lt_gcd (h : Lt i x) (k : Lt i y) : Lt i ((Nat.gcd x.natAbs y.natAbs : Nat) : Int) := by
 unfold Lt at *
 rw [Int.natAbs_natCast]
 rcases Nat.eq_zero_or_pos x.natAbs with h0 | h0
 ·rw [h0, Nat.gcd_zero_left]; exact k
 ·exact Nat.lt_of_le_of_lt (Nat.gcd_le_left _ h0) h
end Go.Proofs.YtgljdfblgpdaaaaGreatDoor
