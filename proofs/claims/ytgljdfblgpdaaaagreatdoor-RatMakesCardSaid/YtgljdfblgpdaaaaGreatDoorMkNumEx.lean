import Derived.Test.YtgljdfblgpdaaaaGreatDoorPbNumMacB
import Derived.Test.YtgljdfblgpdaaaaGreatDoorMkNumTxM
set_option linter.unusedSimpArgs false
set_option linter.unusedVariables false
set_option maxRecDepth 100000
set_option maxHeartbeats 4000000
namespace Go.Proofs.YtgljdfblgpdaaaaGreatDoor
open Go.RowKit
variable {W : World} {v : Value}
open Go.RowKit
variable {W : World} {v : Value}
open Go.ChangeShapes Go.WideShapes Go.ChangeAt Go.RowKit Go.Joins
variable {W : World} {v : Value}
section
variable {H : Type} {enc : TypeId × Value → H} {P : Program}
theorem post_below {f : Func} {s : ChangeSpec} {apart fresh handsOn again : Bool} {W W' : World} {args : Array Value} {ds gs : List (DataW H)} {before pa pv : List MemPlace}
  (hW : DataW.Whole enc P f.params.toList s.vars apart W args.toList ds gs before)
  (hres : ∀ (b : Nat) (sp : Nat → Bool) (hd : Bool), DataW.TrodAll enc P W' b sp hd f.resultTypes.toList (v.resultList f.resultTypes.size) (s.fn H (ds ++ gs)).results [])
  (hargs : ∀ sp : Nat → Bool, (∀ p ∈ before, sp p.block = true) → DataW.TrodAll enc P W' 0 sp true f.params.toList args.toList (s.fn H (ds ++ gs)).args pa)
  (hvars : ∀ sp : Nat → Bool, (∀ p ∈ before, sp p.block = true) → DataW.TrodVars enc P W' sp s.vars (s.fn H (ds ++ gs)).vars pv)
  (hps : before = pa ++ pv) (hb : Below W.heap.size W W')
  (hok : ∀ (j : Nat) (t : TypeId) (r : Value), f.resultTypes[j]? = some t → (v.resultList f.resultTypes.size)[j]? = some r → Value.okWide P W' .any 0 t r) :
  s.post enc P f apart fresh handsOn again W args v W' := by
 have hlt : ∀ p ∈ before, p.block < W.heap.size := fun p hp => hW.lt p hp
 refine ⟨ds, gs, before, [], pa, pv, hW, hres _ _ _, hargs _ (fun p hp => by simpa using hlt p hp), hvars _ (fun p hp => by simpa using hlt p hp), World.keptBut_mono (fun p hp => ⟨hp, ?_⟩) (hb.frame (· ∈ before)), fun _ => ?_⟩
 ·rw [hps, List.mem_append] at hp
  exact Or.inr hp
 ·obtain ⟨_, _, _, _, _, hz, hn⟩ := hW
  refine ⟨hok, _, _, ([] ++ pa) ++ pv, ⟨[] ++ pa, pv, trodAll_append (hargs _ (fun _ _ => rfl)) (hres _ _ _), hvars _ (fun _ _ => rfl), rfl, ?_, ?_⟩, ?_⟩
  ·intro b off hp
   have hin : MemPlace.cell b off ∈ before := by rw [hps]; simpa using hp
   rw [hb.frozen (hlt _ hin)]
   exact hz b off hin
  ·intro ha
   have := hn ha
   rw [hps] at this
   simpa using this
  ·intro p hp _
   rw [hps]
   simpa using hp
end
theorem wf_i64 {n : Int} (h : (Lit.int .i64 n).wf = true) : -9223372036854775808 ≤ n ∧ n ≤ 9223372036854775807 := by
 simp [Lit.wf, IntKind.min, IntKind.max, IntKind.signed, IntKind.bits] at h
 omega
set_option maxRecDepth 100000
theorem open_I {H : Type} {enc : TypeId × Value → H} {b0 : Nat} {d : DataW H} {ps : List MemPlace}
  (hval : Value.okWide Tryz.prog W .any b0 24 v) (h : DataW.Trod enc Tryz.prog W 0 (fun _ => true) true 24 v d ps) :
  ∃ neg A c l, v = .agg #[.bool neg, .slice A l.length c] ∧ l.length ≤ c ∧ WS W A l ∧ Stays enc W 24 v d ps := by
 obtain ⟨c0, c1, y0, y1, m, rfl, rfl, rfl, hy0, hy1⟩ := open_agg2 Tryz.underlying24 (by kernel_rfl) cellsInt hval h
 obtain ⟨neg, e0, rfl⟩ := DataW.trod_bool Tryz.underlying4 hy0
 simp at e0
 subst e0
 have tb : ∀ (W' : World) (sp : Nat → Bool), DataW.trod enc Tryz.prog W' 0 sp true 1 4 [.bool neg] = some (.lit (.bool neg), []) := fun W' sp => by simp [DataW.trod, Tryz.underlying4]
 rcases open_ints Tryz.underlying22 Tryz.underlying83 cellsW hy1 with ⟨hc, rfl⟩ | ⟨a, len, cap, zs, hc, _, hl, hm, hz, rfl, hcl, hwz⟩
 ·simp at hc
  subst hc
  refine ⟨neg, none, 0, [], rfl, Nat.le_refl _, WS.nil_ _ _, fun W' _ sp _ => ?_⟩
  exact shut_agg2 (y0 := (.lit (.bool neg), [])) (y1 := (.nil, [])) Tryz.underlying24 (by kernel_rfl) cellsInt ⟨1, tb W' sp⟩ ⟨1, by simp [DataW.trod, Tryz.underlying22]⟩
 ·simp at hc
  subst hc
  simp only [if_true] at hz
  have hlen : ((zs.take len).map Int.toNat).length = len := by simp; omega
  refine ⟨neg, some a, cap, (zs.take len).map Int.toNat, by rw [hlen], by rw [hlen]; exact hl, ⟨?_, ?_⟩, ?_⟩
  ·intro x hx
   obtain ⟨n, hn, rfl⟩ := List.mem_map.1 hx
   have := wf_u32 (hwz n (List.mem_of_mem_take hn))
   omega
  ·intro hne
   have hpos : 0 < len := by
    rcases Nat.eq_zero_or_pos len with h0 | h0
    ·rw [h0] at hne; exact absurd rfl hne
    ·exact h0
   have g0 := hcl 0 (by omega)
   obtain ⟨b, off, spot⟩ := a
   have hspot : spot = none := by simpa [Addr.add] using World.cell?_spot g0
   subst hspot
   refine ⟨b, off, rfl, ?_, fun j hj => ?_⟩
   ·have := World.block_lt_of_cell? W _ g0
    rwa [add_plain] at this
   ·rw [hlen] at hj
    have g := hcl j (by omega)
    rw [add_plain] at g
    rw [g]
    have hj' : j < zs.length := by omega
    have hw := wf_u32 (hwz _ (List.getElem_mem hj'))
    simp [gd, List.getD_eq_getElem?_getD, List.getElem?_take, hj, List.getElem?_eq_getElem hj']
    omega
  ·intro W' hb sp hsp
   have t1 : DataW.trod enc Tryz.prog W' 0 sp true 2 22 [.slice (some a) len cap] = some (.slice (lits .u32 (zs.take len)) (lits .u32 (zs.drop len)), MemPlace.row a zs.length) := by
    refine shut_ints 0 Tryz.underlying22 Tryz.underlying83 cellsW (Nat.zero_le _) hl hm ?_ (fun i hi => ?_) hwz
    ·rcases Nat.eq_zero_or_pos cap with h0 | h0
     ·have : len = 0 := by omega
      rw [h0, this, hz, h0]; split <;> rfl
     ·have hmem : MemPlace.cell a.block (a.off + 0) ∈ MemPlace.row a zs.length := MemPlace.mem_row.2 ⟨0, by omega, rfl⟩
      have hb1 : sp a.block = true := hsp (MemPlace.cell a.block (a.off + 0)) (by simpa using hmem)
      rw [if_pos hb1, hz]
    ·have g := hcl i hi
     have hlt := World.block_lt_of_cell? W _ g
     exact (hb.cell (p := a.add i) hlt).trans g
   exact shut_agg2 (y0 := (.lit (.bool neg), [])) (y1 := (.slice (lits .u32 (zs.take len)) (lits .u32 (zs.drop len)), MemPlace.row a zs.length)) Tryz.underlying24 (by kernel_rfl) cellsInt ⟨1, tb W' sp⟩ ⟨2, t1⟩
theorem gTab : Tryz.prog.globalNamed "quadratrix/num.tens" = some 0 := by kernel_rfl
theorem gTabType : (Tryz.prog.globals[0]?).map (·.type) = some 110 := by kernel_rfl
theorem cellsTab : Tryz.prog.cellsOf 110 = 10 := by kernel_rfl
theorem tens_of (h : Lib.TabIs Tryz.prog W "quadratrix/num.tens" .u32 [1, 10, 100, 1000, 10000, 100000, 1000000, 10000000, 100000000, 1000000000]) : Tens W := fun i hi => by
 have g := h.cell gTab i (by simp; omega)
 rw [g]
 have : i = 0 ∨ i = 1 ∨ i = 2 ∨ i = 3 ∨ i = 4 ∨ i = 5 ∨ i = 6 ∨ i = 7 ∨ i = 8 ∨ i = 9 := by omega
 rcases this with rfl | rfl | rfl | rfl | rfl | rfl | rfl | rfl | rfl | rfl <;> rfl
noncomputable def laidWorld (os : Os) : World :=
 { World.holding Tryz.prog os ⟨#[], #[], []⟩ with heap := (World.holding Tryz.prog os ⟨#[], #[], []⟩).heap.modify 0 fun
   | .cells _ t frozen => .cells #[.int .u32 1, .int .u32 10, .int .u32 100, .int .u32 1000, .int .u32 10000, .int .u32 100000, .int .u32 1000000, .int .u32 10000000, .int .u32 100000000, .int .u32 1000000000] t frozen
   | o => o }
end Go.Proofs.YtgljdfblgpdaaaaGreatDoor
