import Derived.Deep.Slices
import Derived.Deep.Fields
import Derived.ChangeSame
import Derived.Test.YtgljdfblgpdaaaaGreatDoorPbRatMac
set_option linter.unusedSimpArgs false
set_option linter.unusedVariables false
set_option maxRecDepth 100000
set_option maxHeartbeats 4000000
namespace Go.Proofs.YtgljdfblgpdaaaaGreatDoor
open Go.ChangeShapes Go.WideShapes Go.ChangeAt Go.RowKit Go.Joins Go.Deep
variable {W : World} {fuel : Nat}
theorem cellsRat : Tryz.prog.cellsOf 35 = 4 := by kernel_rfl
section
variable {H : Type} {enc : TypeId × Value → H} {P : Program} {w : World} {base : Nat} {spare : Nat → Bool} {held : Bool}
theorem open_c2 {t : TypeId} {f0 f1 : Field} {cs : List Value} {y : DataW H × List MemPlace} (hs : P.underlying t = some (.struct #[f0, f1])) (hone : oneCellFields P #[f0, f1] = true) (hC : P.cellsOf t = 2)
  (h : DataW.trod enc P w base spare held fuel t cs = some y) :
  ∃ (v0 v1 : Value) (y0 y1 : DataW H × List MemPlace) (n : Nat), cs = [v0, v1] ∧ y = (.agg [y0.1, y1.1], y0.2 ++ y1.2) ∧
   DataW.trod enc P w base spare held n f0.type [v0] = some y0 ∧ DataW.trod enc P w base spare held n f1.type [v1] = some y1 := by
 obtain ⟨y0, y1, n, hx, hl, h0, h1⟩ := trod_struct2 hs h
 match cs, hl.trans hC with
 | [c0, c1], _ =>
  obtain ⟨o0, k0⟩ := hone_of hone 0 f0 rfl
  obtain ⟨o1, k1⟩ := hone_of hone 1 f1 rfl
  exact ⟨c0, c1, y0, y1, n, rfl, hx, by simpa [o0, k0] using h0, by simpa [o1, k1] using h1⟩
theorem shut_c2 {t : TypeId} {f0 f1 : Field} {v0 v1 : Value} {y0 y1 : DataW H × List MemPlace} (hs : P.underlying t = some (.struct #[f0, f1])) (hone : oneCellFields P #[f0, f1] = true) (hC : P.cellsOf t = 2)
  (t0 : ∃ n, DataW.trod enc P w base spare held n f0.type [v0] = some y0) (t1 : ∃ n, DataW.trod enc P w base spare held n f1.type [v1] = some y1) :
  ∃ n, DataW.trod enc P w base spare held n t [v0, v1] = some (.agg [y0.1, y1.1], y0.2 ++ y1.2) := by
 obtain ⟨n0, t0⟩ := t0
 obtain ⟨n1, t1⟩ := t1
 obtain ⟨o0, k0⟩ := hone_of hone 0 f0 rfl
 obtain ⟨o1, k1⟩ := hone_of hone 1 f1 rfl
 exact ⟨_, trod_struct2_mk (enc := enc) (w := w) (base := base) (spare := spare) (held := held) (n := max n0 n1) (cs := [v0, v1]) hs (by simp [hC])
  (by simpa [o0, k0] using DataW.trod_le (Nat.le_max_left n0 n1) t0) (by simpa [o1, k1] using DataW.trod_le (Nat.le_max_right n0 n1) t1)⟩
end
def StaysC {H : Type} (enc : TypeId × Value → H) (W : World) (t : TypeId) (cs : List Value) (y : DataW H × List MemPlace) : Prop :=
 ∀ W', Below W.heap.size W W' → ∀ sp : Nat → Bool, (∀ p ∈ y.2, sp p.block = true) → ∃ n, DataW.trod enc Tryz.prog W' 0 sp true n t cs = some y
theorem open_Ic {H : Type} {enc : TypeId × Value → H} {cs : List Value} {y : DataW H × List MemPlace}
  (h : DataW.trod enc Tryz.prog W 0 (fun _ => true) true fuel 24 cs = some y) :
  ∃ neg A c l, cs = [.bool neg, .slice A (List.length l) c] ∧ l.length ≤ c ∧ WS W A l ∧ StaysC enc W 24 cs y := by
 obtain ⟨c0, c1, y0, y1, m, rfl, rfl, hy0, hy1⟩ := open_c2 Tryz.underlying24 (by kernel_rfl) cellsInt h
 obtain ⟨neg, e0, rfl⟩ := DataW.trod_bool Tryz.underlying4 hy0
 simp at e0
 subst e0
 have tb : ∀ (W' : World) (sp : Nat → Bool), DataW.trod enc Tryz.prog W' 0 sp true 1 4 [.bool neg] = some (.lit (.bool neg), []) := fun W' sp => by simp [DataW.trod, Tryz.underlying4]
 rcases open_ints Tryz.underlying22 Tryz.underlying83 cellsW hy1 with ⟨hc, rfl⟩ | ⟨a, len, cap, zs, hc, _, hl, hm, hz, rfl, hcl, hwz⟩
 ·simp at hc
  subst hc
  refine ⟨neg, none, 0, [], rfl, Nat.le_refl _, WS.nil_ _ _, fun W' _ sp _ => ?_⟩
  exact shut_c2 (y0 := (.lit (.bool neg), [])) (y1 := (.nil, [])) Tryz.underlying24 (by kernel_rfl) cellsInt ⟨1, tb W' sp⟩ ⟨1, by simp [DataW.trod, Tryz.underlying22]⟩
 ·simp at hc
  subst hc
  simp only [if_true] at hz
  have hlen : ((zs.take len).map Int.toNat).length = len := by simp; omega
  refine ⟨neg, some a, cap, (zs.take len).map Int.toNat, by rw [hlen], by rw [hlen]; exact hl, ⟨?_, ?_⟩, ?_⟩
  ·intro x hx
   obtain ⟨n, hn, rfl⟩ := List.mem_map.1 hx
   have := wf_u32 (hwz n (List.mem_of_mem_take hn))
   omega
  ·intro hne
   have hpos : 0 < len := by
    rcases Nat.eq_zero_or_pos len with h0 | h0
    ·rw [h0] at hne; exact absurd rfl hne
    ·exact h0
   have g0 := hcl 0 (by omega)
   obtain ⟨b, off, spot⟩ := a
   have hspot : spot = none := by simpa [Addr.add] using World.cell?_spot g0
   subst hspot
   refine ⟨b, off, rfl, ?_, fun j hj => ?_⟩
   ·have := World.block_lt_of_cell? W _ g0
    rwa [add_plain] at this
   ·rw [hlen] at hj
    have g := hcl j (by omega)
    rw [add_plain] at g
    rw [g]
    have hj' : j < zs.length := by omega
    have hw := wf_u32 (hwz _ (List.getElem_mem hj'))
    simp [gd, List.getD_eq_getElem?_getD, List.getElem?_take, hj, List.getElem?_eq_getElem hj']
    omega
  ·intro W' hb sp hsp
   have t1 : DataW.trod enc Tryz.prog W' 0 sp true 2 22 [.slice (some a) len cap] = some (.slice (lits .u32 (zs.take len)) (lits .u32 (zs.drop len)), MemPlace.row a zs.length) := by
    refine shut_ints 0 Tryz.underlying22 Tryz.underlying83 cellsW (Nat.zero_le _) hl hm ?_ (fun i hi => ?_) hwz
    ·rcases Nat.eq_zero_or_pos cap with h0 | h0
     ·have : len = 0 := by omega
      rw [h0, this, hz, h0]; split <;> rfl
     ·have hmem : MemPlace.cell a.block (a.off + 0) ∈ MemPlace.row a zs.length := MemPlace.mem_row.2 ⟨0, by omega, rfl⟩
      have hb1 : sp a.block = true := hsp (MemPlace.cell a.block (a.off + 0)) (by simpa using hmem)
      rw [if_pos hb1, hz]
    ·have g := hcl i hi
     have hlt := World.block_lt_of_cell? W _ g
     exact (hb.cell (p := a.add i) hlt).trans g
   exact shut_c2 (y0 := (.lit (.bool neg), [])) (y1 := (.slice (lits .u32 (zs.take len)) (lits .u32 (zs.drop len)), MemPlace.row a zs.length)) Tryz.underlying24 (by kernel_rfl) cellsInt ⟨1, tb W' sp⟩ ⟨2, t1⟩
theorem open_Qc {H : Type} {enc : TypeId × Value → H} {cs : List Value} {y : DataW H × List MemPlace}
  (h : DataW.trod enc Tryz.prog W 0 (fun _ => true) true fuel 35 cs = some y) :
  ∃ n A c l m B d k, cs = [.bool n, .slice A (List.length l) c, .bool m, .slice B (List.length k) d] ∧ l.length ≤ c ∧ k.length ≤ d ∧ WS W A l ∧ WS W B k ∧ StaysC enc W 35 cs y := by
 obtain ⟨y0, y1, j, hx, hlen, h0, h1⟩ := trod_struct2 Tryz.underlying35 h
 rw [cellsRat] at hlen
 match cs, hlen with
 | [c0, c1, c2, c3], _ =>
  have g0 : DataW.trod enc Tryz.prog W 0 (fun _ => true) true j 24 [c0, c1] = some y0 := by simpa [cellsInt] using h0
  have g1 : DataW.trod enc Tryz.prog W 0 (fun _ => true) true j 24 [c2, c3] = some y1 := by simpa [cellsInt] using h1
  obtain ⟨n, A, c, l, e0, hc, hl, s0⟩ := open_Ic g0
  obtain ⟨m, B, d, k, e1, hd, hk, s1⟩ := open_Ic g1
  injection e0 with a0 e0
  injection e0 with a1 e0
  injection e1 with a2 e1
  injection e1 with a3 e1
  subst a0 a1 a2 a3
  refine ⟨n, A, c, l, m, B, d, k, rfl, hc, hd, hl, hk, fun W' hb sp hsp => ?_⟩
  subst hx
  obtain ⟨i0, t0⟩ := s0 W' hb sp (fun p hp => hsp p (List.mem_append_left _ hp))
  obtain ⟨i1, t1⟩ := s1 W' hb sp (fun p hp => hsp p (List.mem_append_right _ hp))
  exact ⟨_, trod_struct2_mk (enc := enc) (w := W') (n := max i0 i1) Tryz.underlying35 (by rw [cellsRat]; rfl)
   (by simpa [cellsInt] using DataW.trod_le (Nat.le_max_left i0 i1) t0) (by simpa [cellsInt] using DataW.trod_le (Nat.le_max_right i0 i1) t1)⟩
theorem open_Q {H : Type} {enc : TypeId × Value → H} {b0 : Nat} {v : Value} {d : DataW H} {ps : List MemPlace}
  (hval : Value.okWide Tryz.prog W .any b0 35 v) (h : DataW.Trod enc Tryz.prog W 0 (fun _ => true) true 35 v d ps) :
  ∃ n A c l m B e k, v = .agg #[.bool n, .slice A (List.length l) c, .bool m, .slice B (List.length k) e] ∧ l.length ≤ c ∧ k.length ≤ e ∧ WS W A l ∧ WS W B k ∧ Stays enc W 35 v d ps := by
 obtain ⟨cs, rfl, hsz⟩ := okWide_struct Tryz.underlying35 hval
 obtain ⟨fuel, hf⟩ := h
 have hf' : DataW.trod enc Tryz.prog W 0 (fun _ => true) true fuel 35 cs.toList = some (d, ps) := by simpa [Value.cells] using hf
 obtain ⟨n, A, c, l, m, B, e, k, hcs, hc, hd, hl, hk, st⟩ := open_Qc hf'
 have hcs' : cs = #[.bool n, .slice A l.length c, .bool m, .slice B k.length e] := by rw [← Array.toList_inj, hcs]
 subst hcs'
 refine ⟨n, A, c, l, m, B, e, k, rfl, hc, hd, hl, hk, fun W' hb sp hsp => ?_⟩
 obtain ⟨f, t⟩ := st W' hb sp hsp
 exact ⟨f, by simpa [Value.cells] using t⟩
end Go.Proofs.YtgljdfblgpdaaaaGreatDoor
