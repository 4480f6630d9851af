/- The specification by value: Mul. -/
import Derived.Test.YtgljdfblgpdaaaaGreatDoorNumSpA
set_option linter.unusedSimpArgs false
set_option linter.unusedVariables false
namespace Go.Proofs.YtgljdfblgpdaaaaGreatDoor
open Go.RowKit Go.Shelf

set_option maxRecDepth 100000 in
set_option maxHeartbeats 2000000 in
theorem RMul_iv {w : World} {na nb : Bool} {A B : Option Addr} {ca cb : Nat} {la lb : List Nat} {x y z : Int} (ia : IV w na A ca la x) (ib : IV w nb B cb lb y) (hz : x * y = z) (hlt : Lt 300 z) :
    Calls Tryz.prog 23 #[.agg #[.bool na, .slice A la.length ca], .agg #[.bool nb, .slice B lb.length cb]] w (RIV w z) := by
  have ea := ia.len
  have eb := ib.len
  have HZZ : Hid (zI na la * zI nb lb = z) := Lib.hid (by rw [ia.val, ib.val]; exact hz)
  clear hz
  go_enter Tryz.func23, Tryz.ntmps23
  go_wp2_with fail
  refine (RIs_iv (ia.below (ba (ba (ba (b0 _) _) _) _))).mono ?_
  rintro e w0 ⟨rfl, hb0⟩
  have hbx0 := (Box2.new ((w.alloc (.cells #[.bool na, .slice A la.length ca] 24)).alloc (.cells #[.bool nb, .slice B lb.length cb] 24)) (.bool false) (.slice none 0 0)).below hb0
  rw [World.size_alloc, World.size_alloc] at hbx0
  have hby0 := (((Box2.new w (.bool na) (.slice A la.length ca)).alloc (.cells #[.bool nb, .slice B lb.length cb] 24)).alloc (.cells #[.bool false, .slice none 0 0] 24)).below hb0
  have hbz0 := ((Box2.new (w.alloc (.cells #[.bool na, .slice A la.length ca] 24)) (.bool nb) (.slice B lb.length cb)).alloc (.cells #[.bool false, .slice none 0 0] 24)).below hb0
  rw [World.size_alloc] at hbz0
  have hK0 := bt (ba (ba (ba (b0 w) _) _) _) hb0
  have y2 := hbz0.cell0
  have y3 := hbz0.cell1
  go_wp2_with fail
  refine (RIs_iv (ib.below hK0)).mono ?_
  rintro e w1 ⟨rfl, hb1⟩
  have hbx := hbx0.below hb1
  have hby := hby0.below hb1
  have hbz := hbz0.below hb1
  have hK := bt hK0 hb1
  clear hbx0 hby0 hbz0 hK0 hb0 hb1 y2 y3
  have y0 := hby.cell0
  have y1 := hby.cell1
  have y2 := hbz.cell0
  have y3 := hbz.cell1
  have hwA := ia.ws.below hK
  have hwB := ib.ws.below hK
  go_wp2_with fail
  go_region_held3 (fun W => W.cell? ⟨w.heap.size, 0, none⟩ = some (.bool na) ∧ W.cell? ⟨w.heap.size, 1, none⟩ = some (.slice A la.length ca) ∧ W.cell? ⟨w.heap.size + 1, 0, none⟩ = some (.bool nb) ∧ W.cell? ⟨w.heap.size + 1, 1, none⟩ = some (.slice B lb.length cb))
    (first | exact ⟨y0, y1, y2, y3⟩ | exact ⟨z0, z1, z2, z3⟩ | exact ⟨v0, v1, v2, v3⟩ | exact ⟨s0, s1, s2, s3⟩ | go_keep)
    (first
      | (go_at_call 102; refine (RmulWords_any A B _ ca _ cb la lb _ rfl rfl (by omega) (by omega) (hwA.below (bd (b0 _) _)) (hwB.below (bd (b0 _) _))).mono ?_; rintro e w2 ⟨A1, c1, l1, rfl, hlc1, hws1, ht1, hv1, hb2⟩; have hb2 := bt (bd (b0 w1) _) hb2; have hlen1 : l1.length ≤ la.length + lb.length := top_len ht1 (by rw [hv1, BB_add]; exact Nat.mul_lt_mul_of_lt_of_lt (val_lt hwA.1) (val_lt hwB.1)); have HV1 := Lib.hid hv1; have HT1 := Lib.hid ht1; clear hv1 ht1; have hbx2 := hbx.below hb2; have z0 := (hby.below hb2).cell0; have z1 := (hby.below hb2).cell1; have z2 := (hbz.below hb2).cell0; have z3 := (hbz.below hb2).cell1)
      | (go_at_call 94; refine (Rmade_any _ _ (na != nb) A1 _ c1 l1 rfl (by omega) hlc1 (by first | exact hws1 | exact hws1.below (bd (b0 _) _)) (b0 _)).mono ?_; rintro e w3 ⟨ng, A3, c3, l3, rfl, hc3, hl3, hB3, hz3, hb3⟩; have hb3 := bt (bt hb2 (by first | exact b0 _ | exact bd (b0 _) _)) hb3; have HZ3 := Lib.hid hz3; have HB3 := Lib.hid hB3; clear hz3 hB3; have hbx3 := hbx.below hb3; have x0 := hbx3.cell0; have x1 := hbx3.cell1; have f0 := hbx3.free 0; have f1 := hbx3.free 1; have v0 := (hby.below hb3).cell0; have v1 := (hby.below hb3).cell1; have v2 := (hbz.below hb3).cell0; have v3 := (hbz.below hb3).cell1; have hs := box2_far (hby.below hb3) (q := w.heap.size + 1 + 1) (by omega) (.bool ng) (.slice A3 l3.length c3); have ht := box2_far (hbz.below hb3) (q := w.heap.size + 1 + 1) (by omega) (.bool ng) (.slice A3 l3.length c3); have s0 := hs.cell0; have s1 := hs.cell1; have s2 := ht.cell0; have s3 := ht.cell1))
  obtain ⟨k0, k1, k2⟩ := hbx3.back (.bool ng) (.slice A3 l3.length c3)
  go_wp2_with fail
  refine bodyPost_ret (v := .agg #[.bool ng, .slice A3 l3.length c3]) (by simp [results, Tryz.results23, go_sem, k0, k2]) rfl ?_
  exact riv_store (bt hK hb3) (by omega) hbx3 (.of hc3 hl3 HB3.out (HZ3.out.trans ((zI_mul HV1.out).trans HZZ.out)) hlt)
end Go.Proofs.YtgljdfblgpdaaaaGreatDoor
