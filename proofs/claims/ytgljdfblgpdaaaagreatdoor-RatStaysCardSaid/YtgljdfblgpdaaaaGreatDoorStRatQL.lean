import Derived.Test.YtgljdfblgpdaaaaGreatDoorPbRatArg
import Derived.Test.YtgljdfblgpdaaaaGreatDoorStRatLs
set_option linter.unusedSimpArgs false
set_option linter.unusedVariables false
set_option maxRecDepth 100000
set_option maxHeartbeats 4000000
namespace Go.Proofs.YtgljdfblgpdaaaaGreatDoor
open Go.ChangeShapes Go.WideShapes Go.ChangeAt Go.RowKit Go.Joins Go.Deep
theorem cells4_below {w W' : World} (hb : Below w.heap.size w W') {a : Addr} {n : Nat} {cs : List Value} (hl : a.block < w.heap.size) (h : w.cells? 0 a n = some cs) : W'.cells? 0 a n = some cs := by
 rw [← h]
 unfold World.cells?
 have e : ∀ i, W'.cell? (a.add i) = w.cell? (a.add i) := fun i => hb.cell (p := a.add i) (by unfold Addr.add; split <;> exact hl)
 simp only [e]
theorem open_QLs {H : Type} {enc : TypeId × Value → H} {W : World} {b0 : Nat} {v : Value} {d : DataW H} {ps : List MemPlace}
  (hval : Value.okWide Tryz.prog W .any b0 53 v) (h : DataW.Trod enc Tryz.prog W 0 (fun _ => true) true 53 v d ps) :
  ∃ A c qs, v = .slice A (List.length qs) c ∧ qs.length ≤ c ∧ RL W A qs ∧ ((d = .nil ∧ qs = []) ∨ ∃ el sp, d = .slice el sp ∧ el.length = qs.length) ∧ Stays enc W 53 v d ps := by
 obtain ⟨A0, len0, cap0, rfl⟩ := okWide_slice Tryz.underlying53 hval
 obtain ⟨fuel, hf⟩ := h
 have hf' : DataW.trod enc Tryz.prog W 0 (fun _ => true) true fuel 53 [.slice A0 len0 cap0] = some (d, ps) := by simpa [Value.cells] using hf
 rcases open_slice Tryz.underlying53 hf' with ⟨e, e2⟩ | ⟨a, len, cap, m, n, D, Pl, e, hb, hl, hm, hmm, e2, hx⟩
 ·simp at e
  obtain ⟨rfl, rfl, rfl⟩ := e
  injection e2 with e3 e4
  subst e3 e4
  refine ⟨none, 0, [], rfl, Nat.le_refl _, fun h0 => absurd rfl h0, .inl ⟨rfl, rfl⟩, fun W' _ sp _ => ⟨1, ?_⟩⟩
  simp [DataW.trod, Value.cells, Tryz.underlying53]
 ·simp at e
  obtain ⟨rfl, rfl, rfl⟩ := e
  simp only [if_true] at hmm
  subst hmm
  rw [cellsRat] at hx e2
  injection e2 with e3 e4
  subst e3 e4
  have hel : ∀ i, i < m → ∃ q : QW, (W.cell? ((a.add (i * 4)).add 0) = some (.bool q.n) ∧ W.cell? ((a.add (i * 4)).add 1) = some (.slice q.A q.l.length q.c) ∧ W.cell? ((a.add (i * 4)).add 2) = some (.bool q.m) ∧ W.cell? ((a.add (i * 4)).add 3) = some (.slice q.B q.k.length q.d) ∧ WS W q.A q.l ∧ WS W q.B q.k ∧ q.l.length ≤ q.c ∧ q.k.length ≤ q.d) := by
   intro i hi
   obtain ⟨cs, h1, h2⟩ := hx i hi
   obtain ⟨_, _, hcell⟩ := World.cells?_some h1
   obtain ⟨n', A', c', l', m', B', d', k', rfl, hc, hd, hl', hk', _⟩ := open_Qc h2
   exact ⟨⟨n', A', c', l', m', B', d', k'⟩, hcell 0 (by decide), hcell 1 (by decide), hcell 2 (by decide), hcell 3 (by decide), hl', hk', hc, hd⟩
  obtain ⟨qs, hql, hqs⟩ := list_pick zq len0 (fun i hi => hel i (by omega))
  have hblk : 0 < m → a.block < W.heap.size ∧ a.spot = none := fun h0 => by
   obtain ⟨q, g, _⟩ := hel 0 h0
   have hspot : a.spot = none := by simpa [Addr.add] using World.cell?_spot g
   have := World.block_lt_of_cell? W _ g
   exact ⟨by simpa [Addr.add] using this, hspot⟩
  refine ⟨some a, m, qs, by rw [hql], by omega, fun h0 => ?_, .inr ⟨_, _, rfl, by simp [hql]⟩, ?_⟩
  ·have hp : 0 < len0 := by
    rcases Nat.eq_zero_or_pos len0 with h1 | h1
    ·exact absurd (List.eq_nil_of_length_eq_zero (hql.trans h1)) h0
    ·exact h1
   obtain ⟨hlt, hs⟩ := hblk (by omega)
   obtain ⟨b, off, spot⟩ := a
   simp only at hs
   subst hs
   refine ⟨b, off, rfl, hlt, fun i hi => ?_⟩
   obtain ⟨g0, g1, g2, g3, r⟩ := hqs i (by omega)
   rw [add_plain, add_plain] at g0 g1 g2 g3
   exact ⟨g0, g1, g2, g3, r⟩
  ·intro W' hbw sp hsp
   have hx' : ∀ i, i < m → ∃ cs n, W'.cells? 0 (a.add (i * Tryz.prog.cellsOf 35)) (Tryz.prog.cellsOf 35) = some cs ∧ DataW.trod enc Tryz.prog W' 0 sp true n 35 cs = some (D i, Pl i) := by
    intro i hi
    rw [cellsRat]
    obtain ⟨cs, h1, h2⟩ := hx i hi
    obtain ⟨n', A', c', l', m', B', d', k', _, hc, hd, hl', hk', st⟩ := open_Qc h2
    obtain ⟨f, t⟩ := st W' hbw sp (fun p hp => hsp p (List.mem_append_right _ (List.mem_flatMap.2 ⟨i, List.mem_range.2 hi, hp⟩)))
    exact ⟨cs, f, cells4_below hbw (by unfold Addr.add; split <;> exact (hblk (by omega)).1) h1, t⟩
   have hr : ∃ f, DataW.trod enc Tryz.prog W' 0 sp true f 53 [.slice (some a) len0 m] = some (.slice ((List.range len0).map D) ((List.range (m - len0)).map fun j => D (len0 + j)), MemPlace.row a (m * 4) ++ (List.range m).flatMap Pl) := by
    rcases Nat.eq_zero_or_pos m with h0 | h0
    ·have h1 : len0 = 0 := by omega
     subst h0 h1
     cases hsb : sp a.block with
     | true => have r := shut_slice_whole_cells Tryz.underlying53 hb hl hm hsb D Pl hx'; simpa [cellsRat] using r
     | false => have r := shut_slice_cells Tryz.underlying53 hb hl hm hsb D Pl (fun i hi => by omega) (P := Tryz.prog) (w := W') (enc := enc) (held := true); simpa [cellsRat] using r
    ·have hmem : MemPlace.cell a.block (a.off + 0) ∈ MemPlace.row a (m * 4) := MemPlace.mem_row.2 ⟨0, by omega, rfl⟩
     have hsb : sp a.block = true := hsp (MemPlace.cell a.block (a.off + 0)) (List.mem_append_left _ hmem)
     have r := shut_slice_whole_cells Tryz.underlying53 hb hl hm hsb D Pl hx'
     rwa [cellsRat] at r
   obtain ⟨f, t⟩ := hr
   exact ⟨f, by simpa [Value.cells] using t⟩
theorem bytesRat : Tryz.prog.bytesOf 35 = 64 := by kernel_rfl
end Go.Proofs.YtgljdfblgpdaaaaGreatDoor
