/- The specification by value: Sub; divWords of any words. -/
import Derived.Test.YtgljdfblgpdaaaaGreatDoorNumSpC
set_option linter.unusedSimpArgs false
set_option linter.unusedVariables false
namespace Go.Proofs.YtgljdfblgpdaaaaGreatDoor
open Go.RowKit Go.Shelf

set_option maxRecDepth 100000 in
set_option maxHeartbeats 2000000 in
theorem RSub_iv {w : World} {na nb : Bool} {A B : Option Addr} {ca cb : Nat} {la lb : List Nat} {x y z : Int} (ia : IV w na A ca la x) (ib : IV w nb B cb lb y) (hz : x - y = z) (hlt : Lt 300 z) :
    Calls Tryz.prog 21 #[.agg #[.bool na, .slice A la.length ca], .agg #[.bool nb, .slice B lb.length cb]] w (RIV w z) := by
  have ea := ia.len
  have eb := ib.len
  have HZZ : Hid (x + -y = z) := Lib.hid (by omega)
  have HLN : Hid (Lt 300 (-y)) := Lib.hid (lt_neg (lt_le (lt_val ib.ws ib.val) ib.len))
  clear hz
  go_enter Tryz.func21, Tryz.ntmps21
  go_wp2_with fail
  refine (RIs_iv (ia.below (ba (ba (ba (b0 _) _) _) _))).mono ?_
  rintro e w0 ⟨rfl, hb0⟩
  have hbx0 := (Box2.new ((w.alloc (.cells #[.bool na, .slice A la.length ca] 24)).alloc (.cells #[.bool nb, .slice B lb.length cb] 24)) (.bool false) (.slice none 0 0)).below hb0
  rw [World.size_alloc, World.size_alloc] at hbx0
  have hby0 := (((Box2.new w (.bool na) (.slice A la.length ca)).alloc (.cells #[.bool nb, .slice B lb.length cb] 24)).alloc (.cells #[.bool false, .slice none 0 0] 24)).below hb0
  have hbz0 := ((Box2.new (w.alloc (.cells #[.bool na, .slice A la.length ca] 24)) (.bool nb) (.slice B lb.length cb)).alloc (.cells #[.bool false, .slice none 0 0] 24)).below hb0
  rw [World.size_alloc] at hbz0
  have hK0 := bt (ba (ba (ba (b0 w) _) _) _) hb0
  have y2 := hbz0.cell0
  have y3 := hbz0.cell1
  go_wp2_with fail
  refine (RIs_iv (ib.below hK0)).mono ?_
  rintro e w1 ⟨rfl, hb1⟩
  have hbx := hbx0.below hb1
  have hby := hby0.below hb1
  have hbz := hbz0.below hb1
  have hK := bt hK0 hb1
  clear hbx0 hby0 hbz0 hK0 hb0 hb1 y2 y3
  have y0 := hby.cell0
  have y1 := hby.cell1
  have y2 := hbz.cell0
  have y3 := hbz.cell1
  have hwA := ia.ws.below hK
  have hwB := ib.ws.below hK
  go_wp2_with fail
  go_region_held3 (fun W => W.cell? ⟨w.heap.size, 0, none⟩ = some (.bool na) ∧ W.cell? ⟨w.heap.size, 1, none⟩ = some (.slice A la.length ca) ∧ W.cell? ⟨w.heap.size + 1, 0, none⟩ = some (.bool nb) ∧ W.cell? ⟨w.heap.size + 1, 1, none⟩ = some (.slice B lb.length cb))
    (first | exact ⟨y0, y1, y2, y3⟩ | exact ⟨z0, z1, z2, z3⟩ | exact ⟨v0, v1, v2, v3⟩ | exact ⟨s0, s1, s2, s3⟩ | go_keep)
    (first
      | (go_at_call 100; refine (RNeg_iv (ib.below (bd hK _)) rfl HLN.out).mono ?_; rintro e w2 ⟨n1, A1, c1, l1, rfl, i1, hb2⟩; have hb2 := bt (bd (b0 w1) _) hb2; have hbx2 := hbx.below hb2; have z0 := (hby.below hb2).cell0; have z1 := (hby.below hb2).cell1; have z2 := (hbz.below hb2).cell0; have z3 := (hbz.below hb2).cell1)
      | (go_at_call 19; refine (RAdd_iv (z := z) (ia.below (bt (bt hK hb2) (by first | exact b0 _ | exact bd (b0 _) _))) (i1.below (by first | exact b0 _ | exact bd (b0 _) _)) HZZ.out hlt).mono ?_; rintro e w3 ⟨ng, A3, c3, l3, rfl, i3, hb3⟩; have hb3 := bt (bt hb2 (by first | exact b0 _ | exact bd (b0 _) _)) hb3; have HI3 := Lib.hid i3; clear i3; have hbx3 := hbx.below hb3; have x0 := hbx3.cell0; have x1 := hbx3.cell1; have f0 := hbx3.free 0; have f1 := hbx3.free 1; have v0 := (hby.below hb3).cell0; have v1 := (hby.below hb3).cell1; have v2 := (hbz.below hb3).cell0; have v3 := (hbz.below hb3).cell1; have hs := box2_far (hby.below hb3) (q := w.heap.size + 1 + 1) (by omega) (.bool ng) (.slice A3 l3.length c3); have ht := box2_far (hbz.below hb3) (q := w.heap.size + 1 + 1) (by omega) (.bool ng) (.slice A3 l3.length c3); have s0 := hs.cell0; have s1 := hs.cell1; have s2 := ht.cell0; have s3 := ht.cell1))
  obtain ⟨k0, k1, k2⟩ := hbx3.back (.bool ng) (.slice A3 l3.length c3)
  go_wp2_with fail
  refine bodyPost_ret (v := .agg #[.bool ng, .slice A3 l3.length c3]) (by simp [results, Tryz.results21, go_sem, k0, k2]) rfl ?_
  exact riv_store (bt hK hb3) (by omega) hbx3 HI3.out

set_option maxRecDepth 100000 in
set_option maxHeartbeats 2000000 in
theorem RdivWords_lt (A B : Option Addr) (c d : Nat) (la lb : List Nat) (w : World) (hm : la.length ≤ 500000) (hml : lb.length ≤ 500000) (hca : la.length ≤ c) (tl : Top la) (tk : Top lb) (hlt : val la < val lb) (hA : WS w A la) (hB : WS w B lb) :
    Calls Tryz.prog 91 #[.slice A la.length c, .slice B lb.length d] w (WsP2 w (val la / val lb) (val la % val lb)) := by
  obtain ⟨cv, hcv⟩ : ∃ cv, cv = cmpN (val la) (val lb) := ⟨_, rfl⟩
  have hcv0 : cv < 0 := by rw [hcv]; unfold cmpN; rw [if_pos hlt]; omega
  have HCV := Lib.hid hcv
  have HTL := Lib.hid tl
  have HTK := Lib.hid tk
  have HLT := Lib.hid hlt
  clear hcv tl tk hlt
  go_enter Tryz.func91, Tryz.ntmps91
  go_wp2_with fail
  refine (RcmpWords_any A B la.length c lb.length d la lb _ rfl rfl (by omega) (by omega) HTL.out HTK.out hA hB).mono ?_
  rintro e w1 ⟨rfl, hb1⟩
  rw [← HCV.out]
  go_wp2_with fail
  go_ret2
  exact ⟨none, 0, [], A, c, la, rfl, Nat.le_refl _, hca, WS.nil_ _ _, hA.below hb1, top_nil, HTL.out, (Nat.div_eq_of_lt HLT.out).symm, (Nat.mod_eq_of_lt HLT.out).symm, hb1⟩

set_option maxRecDepth 100000 in
set_option maxHeartbeats 2000000 in
theorem RdivWords_one (A B : Option Addr) (c d : Nat) (la : List Nat) (y : Nat) (w : World) (hm : la.length ≤ 500000) (tl : Top la) (hy : 0 < y) (hy2 : y < 4294967296) (hle : y ≤ val la) (hA : WS w A la) (hB : WS w B [y]) :
    Calls Tryz.prog 91 #[.slice A la.length c, .slice B 1 d] w (WsP2 w (val la / y) (val la % y)) := by
  have hvy : val [y] = y := by simp [val]
  obtain ⟨cv, hcv⟩ : ∃ cv, cv = cmpN (val la) (val [y]) := ⟨_, rfl⟩
  have hcv0 : ¬ cv < 0 := by rw [hcv, hvy]; unfold cmpN; rw [if_neg (by omega)]; split <;> omega
  have HCV := Lib.hid hcv
  have HTL := Lib.hid tl
  have HTK : Hid (Top [y]) := Lib.hid (fun _ => by simp [gd]; omega)
  have hone : ((1 : Int) == 1) = true := rfl
  clear hcv tl hle hvy
  go_enter Tryz.func91, Tryz.ntmps91
  go_wp2_with fail
  refine (RcmpWords_any A B la.length c 1 d la [y] _ rfl rfl (by omega) (by decide) HTL.out HTK.out hA hB).mono ?_
  rintro e w1 ⟨rfl, hb1⟩
  rw [← HCV.out]
  have hB1 := hB.below hb1
  obtain ⟨b, off, rfl, h8, h9⟩ := hB1.at_ (by simp)
  have hc := ws_cell hB1 (j := 0) (by simp)
  rw [show gd [y] 0 = y from rfl, Nat.add_zero] at hc
  have hA1 := hA.below hb1
  clear h8 h9
  go_wp2_with fail
  refine (RbyWord_any A la.length c la y w1 rfl (by omega) hy hy2 hA1).mono ?_
  rintro e w2 ⟨A1, c1, l1, B2, d2, k2, rfl, h1, h2, h3, h4, h5, h6, h7, h8, h9⟩
  have HFIN : Hid (WsP2 w (val la / y) (val la % y) (.returned (.tuple #[.slice A1 l1.length c1, .slice B2 k2.length d2])) w2) := Lib.hid ⟨A1, c1, l1, B2, d2, k2, rfl, h1, h2, h3, h4, h5, h6, h7, h8, bt hb1 h9⟩
  clear h1 h2 h3 h4 h5 h6 h7 h8 h9
  go_wp2_with fail
  go_ret2
  exact HFIN.out

theorem RdivWords_any (A B : Option Addr) (c d : Nat) (la lb : List Nat) (w : World) (hm : la.length ≤ 500000) (hml : lb.length ≤ 500000) (hca : la.length ≤ c) (tl : Top la) (tk : Top lb) (h0 : 0 < lb.length) (hA : WS w A la) (hB : WS w B lb) :
    Calls Tryz.prog 91 #[.slice A la.length c, .slice B lb.length d] w (WsP2 w (val la / val lb) (val la % val lb)) := by
  rcases Nat.lt_or_ge (val la) (val lb) with h | h
  · exact RdivWords_lt A B c d la lb w hm hml hca tl tk h hA hB
  · rcases Nat.lt_or_ge lb.length 2 with h2 | h2
    · obtain ⟨y, rfl⟩ := List.length_eq_one_iff.1 (show lb.length = 1 by omega)
      have hvy : val [y] = y := by simp [val]
      rw [hvy] at h ⊢
      have h3 := tk (by simp)
      exact RdivWords_one A B c d la y w hm tl (by have : gd [y] 0 = y := rfl; simp at h3; omega) (hB.1 y (by simp)) h hA hB
    · exact RdivWords_main A B c d la lb w h2 hm hml tl tk h hA hB
end Go.Proofs.YtgljdfblgpdaaaaGreatDoor
