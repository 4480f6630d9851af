/- One step of Euclid's algorithm: the method 'divide'. -/
import Derived.Test.YtgljdfblgpdaaaaGreatDoorNumFin
import Derived.Test.YtgljdfblgpdaaaaGreatDoorNumDivA
import Derived.Test.YtgljdfblgpdaaaaGreatDoorNumProd
import Derived.Test.YtgljdfblgpdaaaaGreatDoorNumTsM
import Derived.Test.YtgljdfblgpdaaaaGreatDoorNumMix
set_option linter.unusedSimpArgs false
set_option linter.unusedVariables false
/-! One step of Euclid's algorithm: the method 'divide'. -/
namespace Go.Proofs.YtgljdfblgpdaaaaGreatDoor
open Go.RowKit

theorem OwnS.only {a w w' : World} {A : Option Addr} {l : List Nat} {s : Nat} (h : OwnS a w A l) (hb : Only s w w') (ho : Off A l s) : OwnS a w' A l := fun h0 => by
  obtain ⟨g, L, e, hg, hk, ht, hl⟩ := h h0
  exact ⟨g, L, e, hg, hk.only hb (ho h0 g 0 e), ht, hl⟩
/-- What 'divide' leaves at the euclid s. -/
def EDivP (a w : World) (s : Nat) (B Y : Option Addr) (cb cy : Nat) (lb ly : List Nat) (r z : Nat) (o : Bool) (e : Ending) (w' : World) : Prop :=
  ∃ R cr lr Z cz lz, e = .returned (.tuple #[]) ∧ Cells w' s 125 #[.slice B lb.length cb, .slice R lr.length cr, .slice Y ly.length cy, .slice Z lz.length cz, .bool o] ∧
    OwnS a w' B lb ∧ lr.length ≤ cr ∧ OwnS w w' R lr ∧ Top lr ∧ val lr = r ∧ OwnS a w' Y ly ∧ lz.length ≤ cz ∧ OwnS w w' Z lz ∧ Dj R lr Z lz ∧ Top lz ∧ val lz = z ∧ Only s w w'

set_option maxRecDepth 100000 in
set_option maxHeartbeats 1000000 in
theorem eucDivide_any (a w : World) (s : Nat) (A B X Y : Option Addr) (ca cb cx cy : Nat) (la lb lx ly : List Nat) (o : Bool) (ha : la.length ≤ 400000) (hb : lb.length ≤ 400000) (hx : lx.length ≤ 400000) (hy : ly.length ≤ 400000) (h0 : 0 < lb.length)
    (ta : Top la) (tb : Top lb) (hcy : ly.length ≤ cy)
    (hs : Cells w s 125 #[.slice A la.length ca, .slice B lb.length cb, .slice X lx.length cx, .slice Y ly.length cy, .bool o])
    (oa : OwnS a w A la) (ob : OwnS a w B lb) (ox : OwnS a w X lx) (oy : OwnS a w Y ly) :
    Calls Tryz.prog 176 #[.pointer (some ⟨s, 0, none⟩)] w (EDivP a w s B Y cb cy lb ly (val la % val lb) (val lx + val la / val lb * val ly) (!o)) := by
  have q0 := hs.at_ 0
  have q1 := hs.at_ 1
  simp at q0 q1
  have oB := ws_off_cells ob.ws hs
  have oX := ws_off_cells ox.ws hs
  have oY := ws_off_cells oy.ws hs
  have hsl := hs.lt
  go_enter Tryz.func176, Tryz.ntmps176
  go_wp2_with fail
  go_region_held3 (fun W => W.cell? ⟨s, 0, none⟩ = some (.slice A la.length ca) ∧ W.cell? ⟨s, 1, none⟩ = some (.slice B lb.length cb))
    (first | exact ⟨q0, q1⟩ | exact ⟨v0, v1⟩)
    (first
      | (go_at_call 86; refine (divide_any w _ A B ca cb la lb (by omega) (by omega) h0 ta tb (oa.ws.below (bd (b0 _) _)) (ob.ws.below (bd (b0 _) _)) (bd (b0 _) _)).mono ?_; rintro e w1 ⟨Q, cq, lq, R, cr, lr, rfl, hcq, oQ, tQ, vQ, hcr, oR, tR, vR, hb1⟩; have HVQ := Lib.hid vQ; have HVR := Lib.hid vR; clear vQ vR; have hs1 := hs.below hb1; have v0 := hs1.at_ 0; have v1 := hs1.at_ 1; simp at v0 v1))
  have hlq : lq.length ≤ la.length := top_len tQ (by rw [HVQ.out]; exact Nat.lt_of_le_of_lt (Nat.div_le_self _ _) (val_lt oa.ws.1))
  have f0 := hs1.free 0
  have f1 := hs1.free 1
  have hsR : Off R lr s := oR.off_ hsl
  have hsQ : Off Q lq s := oQ.off_ hsl
  clear q0 q1
  go_wp2_with fail
  obtain ⟨W5, hW5⟩ : ∃ W, W = (w1.setCell ⟨s, 0, none⟩ (.slice B lb.length cb)).setCell ⟨s, 1, none⟩ (.slice R lr.length cr) := ⟨_, rfl⟩
  have hs5 : Cells W5 s 125 #[.slice B lb.length cb, .slice R lr.length cr, .slice X lx.length cx, .slice Y ly.length cy, .bool o] := by
    have h := (hs1.set_ 0 (.slice B lb.length cb)).set_ 1 (.slice R lr.length cr)
    simp only [Array.setIfInBounds, List.size_toArray, List.length_cons, List.length_nil] at h
    rw [hW5]; simpa using h
  have hO15 : Only s w1 W5 := by rw [hW5]; exact only2 (only_refl s w1) _ _
  have hO5 : Only s w W5 := (Only.mono (g := s) hb1).trans hO15
  rw [← hW5]
  clear hW5 v0 v1 f0 f1
  have oQ5 : OwnS w W5 Q lq := oQ.only hO15 hsQ
  have oR5 : OwnS w W5 R lr := oR.only hO15 hsR
  have oB5 : OwnS a W5 B lb := ob.only hO5 oB
  have oX5 : OwnS a W5 X lx := ox.only hO5 oX
  have oY5 : OwnS a W5 Y ly := oy.only hO5 oY
  have wX5 := oX5.ws
  have wY5 := oY5.ws
  have e2 := hs5.at_ 2
  have e3 := hs5.at_ 3
  simp at e2 e3
  have hs5l := hs5.lt
  refine wp_region_cut 17 1 (fun W => W.cell? ⟨s, 2, none⟩ = some (.slice X lx.length cx) ∧ W.cell? ⟨s, 3, none⟩ = some (.slice Y ly.length cy)) (by kernel_rfl) (by decide) (by kernel_rfl) (by kernel_rfl) rfl (by kernel_rfl) (by kernel_rfl) (by kernel_rfl) (fun _ _ _ h => h) (v := .pointer (some ⟨s, 0, none⟩)) (.inl ⟨by rfl, fun _ => by go_simp⟩) ⟨e2, e3⟩ (fun hHeld => ?_)
  simp only [List.take_succ_cons, List.take_zero, List.drop_succ_cons, List.drop_zero, Nat.reduceSub, Act.put, List.setIfInBounds_toArray, List.set_cons_zero, List.set_cons_succ]
  refine wpAnyH_take (i := 0) (v := ?_) rfl (by kernel_rfl) (by kernel_rfl) (by kernel_rfl) (fun _ _ _ h => h) (Or.inl ⟨by rfl, ?_⟩) (by assumption) ?_
  rotate_left
  · (intro w hSw; (try dsimp only at hSw); go_simp; all_goals with_reducible rfl)
  try simp only [Act.put, List.setIfInBounds_toArray, List.set_cons_zero, List.set_cons_succ]
  refine wpAnyH_take (i := 2) (v := ?_) rfl (by kernel_rfl) (by kernel_rfl) (by kernel_rfl) (fun _ _ _ h => h) (Or.inl ⟨by rfl, ?_⟩) (by assumption) ?_
  rotate_left
  · (intro w hSw; (try dsimp only at hSw); go_simp; all_goals with_reducible rfl)
  try simp only [Act.put, List.setIfInBounds_toArray, List.set_cons_zero, List.set_cons_succ]
  refine wpAnyH_take (i := 3) (v := ?_) rfl (by kernel_rfl) (by kernel_rfl) (by kernel_rfl) (fun _ _ _ h => h) (Or.inl ⟨by rfl, ?_⟩) (by assumption) ?_
  rotate_left
  · (intro w hSw; (try dsimp only at hSw); go_simp; all_goals with_reducible rfl)
  try simp only [Act.put, List.setIfInBounds_toArray, List.set_cons_zero, List.set_cons_succ]
  refine wpAnyH_take (i := 4) (v := ?_) rfl (by kernel_rfl) (by kernel_rfl) (by kernel_rfl) (fun _ _ _ h => h) (Or.inl ⟨by rfl, ?_⟩) (by assumption) ?_
  rotate_left
  · (intro w hSw; (try dsimp only at hSw); go_simp; all_goals with_reducible rfl)
  try simp only [Act.put, List.setIfInBounds_toArray, List.set_cons_zero, List.set_cons_succ]
  refine wpAnyH_take (i := 5) (v := ?_) rfl (by kernel_rfl) (by kernel_rfl) (by kernel_rfl) (fun _ _ _ h => h) (Or.inl ⟨by rfl, ?_⟩) (by assumption) ?_
  rotate_left
  · (intro w hSw; (try dsimp only at hSw); go_simp; all_goals with_reducible rfl)
  try simp only [Act.put, List.setIfInBounds_toArray, List.set_cons_zero, List.set_cons_succ]
  refine wpAnyH_take (i := 6) (v := ?_) rfl (by kernel_rfl) (by kernel_rfl) (by kernel_rfl) (fun _ _ _ h => h) (Or.inl ⟨by rfl, ?_⟩) (by assumption) ?_
  rotate_left
  · (intro w hSw; (try dsimp only at hSw); go_simp; all_goals with_reducible rfl)
  try simp only [Act.put, List.setIfInBounds_toArray, List.set_cons_zero, List.set_cons_succ]
  refine wpAnyH_take (i := 7) (v := ?_) rfl (by kernel_rfl) (by kernel_rfl) (by kernel_rfl) (fun _ _ _ h => h) (Or.inl ⟨by rfl, ?_⟩) (by assumption) ?_
  rotate_left
  · (intro w hSw; (try dsimp only at hSw); go_simp; all_goals with_reducible rfl)
  try simp only [Act.put, List.setIfInBounds_toArray, List.set_cons_zero, List.set_cons_succ]
  refine wpAnyH_take (i := 8) (v := ?_) rfl (by kernel_rfl) (by kernel_rfl) (by kernel_rfl) (fun _ _ _ h => h) (Or.inl ⟨by rfl, ?_⟩) (by assumption) ?_
  rotate_left
  · (intro w hSw; (try dsimp only at hSw); go_simp; all_goals with_reducible rfl)
  try simp only [Act.put, List.setIfInBounds_toArray, List.set_cons_zero, List.set_cons_succ]
  refine wpAnyH_take (i := 9) (v := ?_) rfl (by kernel_rfl) (by kernel_rfl) (by kernel_rfl) (fun _ _ _ h => h) (Or.inl ⟨by rfl, ?_⟩) (by assumption) ?_
  rotate_left
  · (intro w hSw; (try dsimp only at hSw); go_simp; all_goals with_reducible rfl)
  try simp only [Act.put, List.setIfInBounds_toArray, List.set_cons_zero, List.set_cons_succ]
  refine wpAnyH_take (i := 10) (v := ?_) rfl (by kernel_rfl) (by kernel_rfl) (by kernel_rfl) (fun _ _ _ h => h) (Or.inl ⟨by rfl, ?_⟩) (by assumption) ?_
  rotate_left
  · (intro w hSw; (try dsimp only at hSw); go_simp; all_goals with_reducible rfl)
  try simp only [Act.put, List.setIfInBounds_toArray, List.set_cons_zero, List.set_cons_succ]
  refine wpAnyH_take (i := 11) (v := ?_) rfl (by kernel_rfl) (by kernel_rfl) (by kernel_rfl) (fun _ _ _ h => h) (Or.inl ⟨by rfl, ?_⟩) (by assumption) ?_
  rotate_left
  · (intro w hSw; (try dsimp only at hSw); go_simp; all_goals with_reducible rfl)
  try simp only [Act.put, List.setIfInBounds_toArray, List.set_cons_zero, List.set_cons_succ]
  refine wpAnyH_take (i := 12) (v := ?_) rfl (by kernel_rfl) (by kernel_rfl) (by kernel_rfl) (fun _ _ _ h => h) (Or.inl ⟨by rfl, ?_⟩) (by assumption) ?_
  rotate_left
  · (intro w hSw; (try dsimp only at hSw); go_simp; all_goals with_reducible rfl)
  try simp only [Act.put, List.setIfInBounds_toArray, List.set_cons_zero, List.set_cons_succ]
  refine wpAnyH_take (i := 13) (v := ?_) rfl (by kernel_rfl) (by kernel_rfl) (by kernel_rfl) (fun _ _ _ h => h) (Or.inl ⟨by rfl, ?_⟩) (by assumption) ?_
  rotate_left
  · (intro w hSw; (try dsimp only at hSw); go_simp; all_goals with_reducible rfl)
  try simp only [Act.put, List.setIfInBounds_toArray, List.set_cons_zero, List.set_cons_succ]
  refine wpAnyH_take (i := 14) (v := ?_) rfl (by kernel_rfl) (by kernel_rfl) (by kernel_rfl) (fun _ _ _ h => h) (Or.inl ⟨by rfl, ?_⟩) (by assumption) ?_
  rotate_left
  · (intro w hSw; (try dsimp only at hSw); go_simp; all_goals with_reducible rfl)
  try simp only [Act.put, List.setIfInBounds_toArray, List.set_cons_zero, List.set_cons_succ]
  refine wpAnyH_ready (rs := [15]) (by kernel_rfl) (by simp) ?_
  refine AllReadyH.cons rfl (fun K hK => ?_) AllReadyH.nil
  go_simp
  go_at_call 101
  refine (product_all W5 _ Q Y lq.length cq ly.length cy lq ly rfl rfl (by omega) hcq hcy (oQ5.ws.below (bd (b0 _) _)) (wY5.below (bd (b0 _) _)) (bd (b0 _) _)).mono ?_
  rintro e w6 ⟨A6, c6, l6, rfl, hc6, ho6, ht6, hv6, hb6⟩
  have hl6 : l6.length ≤ lq.length + ly.length := top_len ht6 (by rw [hv6, BB_add]; exact Nat.mul_lt_mul_of_lt_of_lt (val_lt oQ5.ws.1) (val_lt wY5.1))
  have HV6 := Lib.hid hv6
  clear hv6
  have hs6 := hs5.below hb6
  have e6 := hs6.at_ 2
  have e7 := hs6.at_ 3
  simp at e6 e7
  have wX6 := wX5.below hb6
  refine hK.out _ _ ⟨e6, e7⟩ (fun hHeld => ?_)
  clear hK K
  try simp only [Act.put, List.setIfInBounds_toArray, List.set_cons_zero, List.set_cons_succ]
  refine wpAnyH_ready (rs := [16]) (by kernel_rfl) (by simp) ?_
  refine AllReadyH.cons rfl (fun K hK => ?_) AllReadyH.nil
  go_simp
  go_at_call 87
  refine (sum_any w6 _ X A6 lx.length cx l6.length c6 lx l6 rfl rfl (by omega) (by omega) wX6 ho6.ws (b0 _)).mono ?_
  rintro e w7 ⟨A7, c7, l7, rfl, hc7, ho7, ht7, hv7, hb7⟩
  have HV7 := Lib.hid hv7
  clear hv7
  have hs7 := hs6.below hb7
  have e8 := hs7.at_ 2
  have e9 := hs7.at_ 3
  have e10 := hs7.at_ 4
  simp at e8 e9 e10
  have g2 := hs7.free 2
  have g3 := hs7.free 3
  have g4 := hs7.free 4
  refine hK.out _ _ ⟨e8, e9⟩ (fun hHeld => ?_)
  clear hK K
  try simp only [Act.put, List.setIfInBounds_toArray, List.set_cons_zero, List.set_cons_succ]
  refine wpAnyH_done (by kernel_rfl) ?_ _
  simp only [HT]
  go_wp2_with fail
  go_end0
  have h67 := bt hb6 hb7
  have hO8 := (hO5.below h67)
  refine ⟨R, cr, lr, A7, c7, l7, rfl, ?_, ?_, hcr, ?_, tR, HVR.out, ?_, hc7, ?_, Dj.fresh oR5.ws ho7 hb6.size, ht7, ?_, ?_⟩
  · have h := ((hs7.set_ 2 (.slice Y ly.length cy)).set_ 3 (.slice A7 l7.length c7)).set_ 4 (.bool (!o))
    simpa using h
  · exact (oB5.below h67).only (((only_refl s w7).set_ (p := ⟨s, 2, none⟩) (.inl rfl) _).set_ (p := ⟨s, 3, none⟩) (.inl rfl) _ |>.set_ (p := ⟨s, 4, none⟩) (.inl rfl) _) oB
  · exact (oR5.below h67).only (((only_refl s w7).set_ (p := ⟨s, 2, none⟩) (.inl rfl) _).set_ (p := ⟨s, 3, none⟩) (.inl rfl) _ |>.set_ (p := ⟨s, 4, none⟩) (.inl rfl) _) hsR
  · exact (oY5.below h67).only (((only_refl s w7).set_ (p := ⟨s, 2, none⟩) (.inl rfl) _).set_ (p := ⟨s, 3, none⟩) (.inl rfl) _ |>.set_ (p := ⟨s, 4, none⟩) (.inl rfl) _) oY
  · exact (ho7.mono (Nat.le_trans hO5.size hb6.size)).only (((only_refl s w7).set_ (p := ⟨s, 2, none⟩) (.inl rfl) _).set_ (p := ⟨s, 3, none⟩) (.inl rfl) _ |>.set_ (p := ⟨s, 4, none⟩) (.inl rfl) _) (ho7.off_ (by have := hb6.size; omega))
  · rw [HV7.out, HV6.out, HVQ.out]
  · exact ((hO8.set_ (p := ⟨s, 2, none⟩) (.inl rfl) _).set_ (p := ⟨s, 3, none⟩) (.inl rfl) _).set_ (p := ⟨s, 4, none⟩) (.inl rfl) _
end Go.Proofs.YtgljdfblgpdaaaaGreatDoor

/-! The state of Euclid's algorithm in memory, and what its steps make of it. -/
namespace Go.Proofs.YtgljdfblgpdaaaaGreatDoor
open Go.RowKit

/-- The euclid at s: four slices of its own, that lie apart. -/
structure ES (a W : World) (s : Nat) (A B X Y : Option Addr) (ca cb cx cy : Nat) (la lb lx ly : List Nat) (o : Bool) : Prop where
  cells : Cells W s 125 #[.slice A la.length ca, .slice B lb.length cb, .slice X lx.length cx, .slice Y ly.length cy, .bool o]
  oa : Own a W A ca la
  ob : Own a W B cb lb
  ox : Own a W X cx lx
  oy : Own a W Y cy ly
  ab : Dj A la B lb
  ax : Dj A la X lx
  ay : Dj A la Y ly
  bx : Dj B lb X lx
  by_ : Dj B lb Y ly
  low : a.heap.size ≤ s
  bel : Below a.heap.size a W

theorem ES.div {a w w' : World} {s : Nat} {A B X Y : Option Addr} {ca cb cx cy : Nat} {la lb lx ly : List Nat} {o o' : Bool} {r z : Nat} {e : Ending} (h : ES a w s A B X Y ca cb cx cy la lb lx ly o) (hd : EDivP a w s B Y cb cy lb ly r z o' e w') :
    ∃ R cr lr Z cz lz, e = .returned (.tuple #[]) ∧ ES a w' s B R Y Z cb cr cy cz lb lr ly lz o' ∧ val lr = r ∧ val lz = z := by
  obtain ⟨R, cr, lr, Z, cz, lz, he, hs, hB, hcr, hR, tR, vR, hY, hcz, hZ, hRZ, tZ, vZ, hO⟩ := hd
  have hw := h.bel.size
  exact ⟨R, cr, lr, Z, cz, lz, he, ⟨hs, ⟨hB, h.ob.top, h.ob.cap⟩, ⟨hR.mono hw, tR, hcr⟩, ⟨hY, h.oy.top, h.oy.cap⟩, ⟨hZ.mono hw, tZ, hcz⟩, Dj.fresh h.ob.ws hR (Nat.le_refl _), h.by_, Dj.fresh h.ob.ws hZ (Nat.le_refl _), (Dj.fresh h.oy.ws hR (Nat.le_refl _)).symm, hRZ, h.low, bo h.bel hO h.low⟩, vR, vZ⟩

/-- What 'turn' leaves at the euclid s. -/
def ETurnP (a w : World) (s : Nat) (A B : Option Addr) (ca cb : Nat) (A1 B1 x y : Nat) (o : Bool) (e : Ending) (w' : World) : Prop :=
  ∃ la' lb' X' cx' lx' Y' cy' ly', e = .returned (.tuple #[]) ∧ Cells w' s 125 #[.slice A la'.length ca, .slice B lb'.length cb, .slice X' lx'.length cx', .slice Y' ly'.length cy', .bool o] ∧
    OwnS a w' A la' ∧ la'.length ≤ ca ∧ Top la' ∧ val la' = A1 ∧ OwnS a w' B lb' ∧ lb'.length ≤ cb ∧ Top lb' ∧ val lb' = B1 ∧
    lx'.length ≤ cx' ∧ OwnS w w' X' lx' ∧ Top lx' ∧ val lx' = x ∧ ly'.length ≤ cy' ∧ OwnS w w' Y' ly' ∧ Top ly' ∧ val ly' = y ∧ Below a.heap.size a w'

theorem ES.turn {a w w' : World} {s : Nat} {A B X Y : Option Addr} {ca cb cx cy : Nat} {la lb lx ly : List Nat} {o o' : Bool} {A1 B1 x y : Nat} {e : Ending} (h : ES a w s A B X Y ca cb cx cy la lb lx ly o) (ha : la ≠ []) (hb : lb ≠ []) (hd : ETurnP a w s A B ca cb A1 B1 x y o' e w') :
    ∃ la' lb' X' cx' lx' Y' cy' ly', e = .returned (.tuple #[]) ∧ ES a w' s A B X' Y' ca cb cx' cy' la' lb' lx' ly' o' ∧ val la' = A1 ∧ val lb' = B1 ∧ val lx' = x ∧ val ly' = y := by
  obtain ⟨la', lb', X', cx', lx', Y', cy', ly', he, hs, hA, hca, tA, vA, hB, hcb, tB, vB, hcx, hX, tX, vX, hcy, hY, tY, vY, hbel⟩ := hd
  have hw := h.bel.size
  have f : ∀ {A : Option Addr} {c : Nat} {l : List Nat} {l' k' : List Nat} {K : Option Addr}, Own a w A c l → l ≠ [] → OwnS w w' K k' → Dj A l' K k' := fun {A c l l' k' K} hA hl hK => by
    intro h1 h2
    exact (Dj.fresh hA.ws hK (Nat.le_refl _)) hl h2
  exact ⟨la', lb', X', cx', lx', Y', cy', ly', he, ⟨hs, ⟨hA, tA, hca⟩, ⟨hB, tB, hcb⟩, ⟨hX.mono hw, tX, hcx⟩, ⟨hY.mono hw, tY, hcy⟩, h.ab.more ha hb, f h.oa ha hX, f h.oa ha hY, f h.ob hb hX, f h.ob hb hY, h.low, hbel⟩, vA, vB, vX, vY⟩

/-- Between two rounds of 'run', that began with a0, b0, 0 and y0. -/
def RunI (a : World) (s a0 b0 y0 : Nat) (o : Bool) (W : World) : Prop :=
  ∃ (A B X Y : Option Addr) (ca cb cx cy : Nat) (la lb lx ly : List Nat) (p q u v : Nat) (odd : Bool), ES a W s A B X Y ca cb cx cy la lb lx ly (o != odd) ∧
    TS a0 b0 (val la) (val lb) p q u v odd ∧ Desc a0 b0 (val la) (val lb) p q u v odd ∧ val lx = y0 * q ∧ val ly = y0 * v
/-- What 'run' ends in. -/
def RunG (a : World) (s a0 b0 y0 : Nat) (o : Bool) (e : Ending) (w' : World) : Prop :=
  ∃ (g p q u v : Nat) (odd : Bool) (A' B' X' Y' : Option Addr) (ca' cb' cx' cy' : Nat) (la' lx' ly' : List Nat), e = .returned (.tuple #[]) ∧ TR a0 b0 g 0 p q u v odd ∧ Own a w' A' ca' la' ∧ val la' = g ∧
    Cells w' s 125 #[.slice A' la'.length ca', .slice B' 0 cb', .slice X' lx'.length cx', .slice Y' ly'.length cy', .bool (o != odd)] ∧
    Own a w' X' cx' lx' ∧ val lx' = y0 * q ∧ Own a w' Y' cy' ly' ∧ val ly' = y0 * v ∧ Below a.heap.size a w'

theorem cof0 {y0 q1 v1 p2 q2 lx ly : Nat} (hx : lx = y0 * q1) (hy : ly = y0 * v1) : lx * p2 + ly * q2 = y0 * (p2 * q1 + q2 * v1) := by
  subst hx hy
  rw [Nat.mul_add, Nat.mul_assoc, Nat.mul_assoc, Nat.mul_comm q1, Nat.mul_comm v1]
theorem bne_assoc (o a b : Bool) : ((o != a) != b) = (o != (a != b)) := by cases o <;> cases a <;> cases b <;> rfl
theorem RunI.step {a W w' : World} {s a0 b0 y0 : Nat} {o : Bool} {A B X Y A' B' X' Y' : Option Addr} {ca cb cx cy ca' cb' cx' cy' : Nat} {la lb lx ly la' lb' lx' ly' : List Nat} {p q u v p2 q2 u2 v2 : Nat} {odd o2 o' : Bool}
    (_ : ES a W s A B X Y ca cb cx cy la lb lx ly (o != odd)) (ht : TS a0 b0 (val la) (val lb) p q u v odd) (hd : Desc a0 b0 (val la) (val lb) p q u v odd) (hx : val lx = y0 * q) (hy : val ly = y0 * v)
    (h' : ES a w' s A' B' X' Y' ca' cb' cx' cy' la' lb' lx' ly' o') (ho : o' = ((o != odd) != o2)) (k : TS (val la) (val lb) (val la') (val lb') p2 q2 u2 v2 o2) (hlt : val lb' < val la') (hx' : val lx' = val lx * p2 + val ly * q2) (hy' : val ly' = val lx * u2 + val ly * v2) :
    RunI a s a0 b0 y0 o w' := by
  subst ho
  rw [bne_assoc] at h'
  exact ⟨_, _, _, _, _, _, _, _, _, _, _, _, _, _, _, _, _, h', ht.more hd k, .inl hlt, by rw [hx', cof0 hx hy], by rw [hy', cof0 hx hy]⟩
theorem RunI.fin {a W w' : World} {s a0 b0 y0 : Nat} {o : Bool} {A B X Y : Option Addr} {ca cb cx cy : Nat} {la lb lx ly : List Nat} {p q u v : Nat} {odd : Bool} {e : Ending}
    (h : ES a W s A B X Y ca cb cx cy la lb lx ly (o != odd)) (ht : TS a0 b0 (val la) (val lb) p q u v odd) (hd : Desc a0 b0 (val la) (val lb) p q u v odd) (hx : val lx = y0 * q) (hy : val ly = y0 * v)
    (hf : FinP W s (val la) (val lb) X Y cx cy lx ly (o != odd) e w') : RunG a s a0 b0 y0 o e w' := by
  obtain ⟨g, p2, q2, u2, v2, o2, A', X', Y', ca', cx', cy', la', lx', ly', he, hTR, hca', hA', tA', vA', hs', h0, h1, hO⟩ := hf
  have hw := h.bel.size
  have hbel := bo h.bel hO h.low
  rw [bne_assoc] at hs'
  refine ⟨g, _, _, _, _, _, A', none, X', Y', ca', 0, cx', cy', la', lx', ly', he, (ht.more hd hTR.ts).tr, ⟨hA'.mono hw, tA', hca'⟩, vA', hs', ?_⟩
  by_cases hl : ly = []
  · obtain ⟨rfl, rfl, rfl, rfl, rfl, rfl⟩ := h0 hl
    have hv0 : y0 * v = 0 := by rw [← hy, hl]; rfl
    have hy0 : y0 = 0 := by
      have := ht.v_pos
      rcases Nat.mul_eq_zero.1 hv0 with h | h
      · exact h
      · omega
    have hx0 : lx' = [] := List.eq_nil_of_length_eq_zero ((val_eq_zero h.ox.top).1 (by rw [hx, hy0, Nat.zero_mul]))
    subst hy0 hl hx0
    exact ⟨Own.nil_ _ _ _ _, by simp [val], Own.nil_ _ _ _ _, by simp [val], hbel⟩
  · obtain ⟨k1, k2, k3, k4, k5, k6, k7, k8⟩ := h1 hl
    exact ⟨⟨k2.mono hw, k3, k1⟩, by rw [k4, cof0 hx hy], ⟨k6.mono hw, k7, k5⟩, by rw [k8, cof0 hx hy], hbel⟩
theorem RunI.none_ {a W : World} {s a0 b0 y0 : Nat} {o : Bool} {A B X Y : Option Addr} {ca cb cx cy : Nat} {la lx ly : List Nat} {p q u v : Nat} {odd : Bool}
    (h : ES a W s A B X Y ca cb cx cy la [] lx ly (o != odd)) (ht : TS a0 b0 (val la) 0 p q u v odd) (hx : val lx = y0 * q) (hy : val ly = y0 * v) : RunG a s a0 b0 y0 o (.returned (.tuple #[])) W :=
  ⟨_, p, q, u, v, odd, A, B, X, Y, ca, cb, cx, cy, la, lx, ly, rfl, ht.tr, h.oa, rfl, h.cells, h.ox, hx, h.oy, hy, h.bel⟩
end Go.Proofs.YtgljdfblgpdaaaaGreatDoor
