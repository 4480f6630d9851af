import Derived.Test.YtgljdfblgpdaaaaGreatDoorPbRefV
import Derived.Test.YtgljdfblgpdaaaaGreatDoorTyNumEx
import Derived.Test.YtgljdfblgpdaaaaGreatDoorTyNumWMul
set_option linter.unusedSimpArgs false
set_option linter.unusedVariables false
set_option maxRecDepth 100000
set_option maxHeartbeats 4000000
namespace Go.Proofs.YtgljdfblgpdaaaaGreatDoor
open Go.RowKit Go.Shelf
set_option maxRecDepth 100000 in
set_option maxHeartbeats 8000000 in
theorem RQWhole_iv {w : World} {n : Bool} {A : Option Addr} {c : Nat} {l : List Nat} {x : Int} (h : IV w n A c l x) :
    Calls Tryz.prog 34 #[.agg #[.bool n, .slice A l.length c]] w (RIQ w x 1) := by
  have H1 := Lib.hid h
  clear h
  obtain ⟨W1, hW1, hw1, x0, x1⟩ : ∃ W, W = (w.alloc (.cells #[.bool n, .slice A l.length c] 24)).alloc (.cells #[.bool false, .slice none 0 0, .bool false, .slice none 0 0] 35) ∧ Below w.heap.size w W ∧ Box2 W (w.heap.size) (.bool n) (.slice A l.length c) ∧ Box4 W (w.heap.size + 1) (.bool false) (.slice none 0 0) (.bool false) (.slice none 0 0) := by
    refine ⟨_, rfl, ba (ba (b0 _) _) _, ?_, ?_⟩
    · have h := Box2.new w (.bool n) (.slice A l.length c)
      exact (h.alloc _)
    · have h := Box4.new (w.alloc (.cells #[.bool n, .slice A l.length c] 24)) (.bool false) (.slice none 0 0) (.bool false) (.slice none 0 0)
      rw [World.size_alloc] at h
      exact h
  go_enter Tryz.func34, Tryz.ntmps34
  go_wp2_with fail
  rw [← hW1]
  clear hW1
  have c_x0_0 := x0.cell0
  have c_x0_1 := x0.cell1
  go_wp2_with fail
  have HC : Hid (∀ W, Below W1.heap.size W1 W → (W.cell? ⟨w.heap.size, 0, none⟩ = some (.bool n) ∧ W.cell? ⟨w.heap.size, 1, none⟩ = some (.slice A l.length c))) := Lib.hid (fun W hb => ⟨cell_below x0.cell0 hb, cell_below x0.cell1 hb⟩)
  have HW := Lib.hid hw1
  have Gx0 := Lib.hid x0
  have Gx1 := Lib.hid x1
  clear x0 x1 hw1
  refine wp_region_cut0 3 (fun W => W.cell? ⟨w.heap.size, 0, none⟩ = some (.bool n) ∧ W.cell? ⟨w.heap.size, 1, none⟩ = some (.slice A l.length c)) (by kernel_rfl) (by decide) (by kernel_rfl) (by kernel_rfl) (HC.out _ (bw (b0 _))) (fun hHeld => ?_)
  simp only [List.take_succ_cons, List.take_zero, List.drop_succ_cons, List.drop_zero, Nat.reduceSub, Act.put, List.setIfInBounds_toArray, List.set_cons_zero, List.set_cons_succ]
  refine wpAnyH_take (i := 0) (v := ?_) rfl (by kernel_rfl) (by kernel_rfl) (by kernel_rfl) (fun _ _ _ h => h) (Or.inl ⟨by rfl, ?_⟩) (by assumption) ?_
  rotate_left
  · (intro w hSw; (try dsimp only at hSw); go_simp; all_goals with_reducible rfl)
  try simp only [Act.put, List.getElem_toArray, List.getElem_cons_zero, List.getElem_cons_succ, List.setIfInBounds_toArray, List.set_cons_zero, List.set_cons_succ]
  refine wpAnyH_ready (rs := [1]) (by kernel_rfl) (by simp) ?_
  refine AllReadyH.cons rfl (fun K hK => ?_) AllReadyH.nil
  go_simp
  go_at_call 107
  refine (Rone_iv _).mono ?_
  rintro e w2 ⟨n1, A1, c1, l1, rfl, i1, hb⟩
  have HBw2 := Lib.hid (show Below W1.heap.size W1 w2 from bt (bw (b0 _)) hb)
  have HI1 := Lib.hid i1
  clear hb i1 hHeld
  refine hK.out _ _ (HC.out _ HBw2.out) (fun hHeld => ?_)
  clear hK K
  try simp only [Act.put, List.getElem_toArray, List.getElem_cons_zero, List.getElem_cons_succ, List.setIfInBounds_toArray, List.set_cons_zero, List.set_cons_succ]
  refine wpAnyH_take (i := 2) (v := ?_) rfl (by kernel_rfl) (by kernel_rfl) (by kernel_rfl) (fun _ _ _ h => h) (Or.inl ⟨by rfl, ?_⟩) (by assumption) ?_
  rotate_left
  · (intro w hSw; (try dsimp only at hSw); go_simp; all_goals with_reducible rfl)
  try simp only [Act.put, List.getElem_toArray, List.getElem_cons_zero, List.getElem_cons_succ, List.setIfInBounds_toArray, List.set_cons_zero, List.set_cons_succ]
  refine wpAnyH_done (by kernel_rfl) ?_ _
  simp only [HT]
  clear hHeld
  have x1 := Gx1.out.below HBw2.out
  have hw1_ := bt HW.out HBw2.out
  have f0 := x1.free 0
  have r0 := x1.cell0
  have f1 := x1.free 1
  have r1 := x1.cell1
  have f2 := x1.free 2
  have r2 := x1.cell2
  have f3 := x1.free 3
  have r3 := x1.cell3
  go_wp2_with fail
  have z2 := x1.stored (.bool n) (.slice A l.length c) (.bool n1) (.slice A1 l1.length c1)
  have k0 := z2.cell0
  have k1 := z2.cell1
  have k2 := z2.cell2
  have k3 := z2.cell3
  refine bodyPost_ret (v := .agg #[.bool n, .slice A l.length c, .bool n1, .slice A1 l1.length c1]) (by simp [results, Tryz.results34, go_sem, k0, k1, k2, k3]) rfl ?_
  exact riq_store hw1_ (by omega) x1 (H1.out.below hw1_) HI1.out
end Go.Proofs.YtgljdfblgpdaaaaGreatDoor
