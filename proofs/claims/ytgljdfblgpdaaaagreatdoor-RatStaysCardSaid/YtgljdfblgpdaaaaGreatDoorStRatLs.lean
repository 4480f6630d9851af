import Derived.Test.YtgljdfblgpdaaaaGreatDoorStRatQ
set_option linter.unusedSimpArgs false
set_option linter.unusedVariables false
set_option maxRecDepth 100000
set_option maxHeartbeats 4000000
namespace Go.Proofs.YtgljdfblgpdaaaaGreatDoor
open Go.RowKit Go.Shelf
variable {w : World}
def RAt (W : World) (b off : Nat) (a : QW) : Prop :=
 W.cell? ⟨b, off, none⟩ = some (.bool a.n) ∧ W.cell? ⟨b, off + 1, none⟩ = some (.slice a.A a.l.length a.c) ∧ W.cell? ⟨b, off + 2, none⟩ = some (.bool a.m) ∧ W.cell? ⟨b, off + 3, none⟩ = some (.slice a.B a.k.length a.d) ∧ WS W a.A a.l ∧ WS W a.B a.k ∧ a.l.length ≤ a.c ∧ a.k.length ≤ a.d
def zq : QW := ⟨false, none, 0, [], false, none, 0, []⟩
def RL (W : World) (A : Option Addr) (qs : List QW) : Prop :=
 qs ≠ [] → ∃ b off, A = some ⟨b, off, none⟩ ∧ b < W.heap.size ∧ ∀ i, i < qs.length → RAt W b (off + i * 4) (qs.getD i zq)
section
variable {W W' : World} {A : Option Addr} {qs : List QW} {b off : Nat} {a : QW}
theorem RAt.below (h : RAt W b off a) (hb : Below W.heap.size W W') (hl : b < W.heap.size) : RAt W' b off a := by
 obtain ⟨e0, e1, e2, e3, h1, h2, h3, h4⟩ := h
 exact ⟨(hb.cell (p := ⟨b, _, none⟩) hl).trans e0, (hb.cell (p := ⟨b, _, none⟩) hl).trans e1, (hb.cell (p := ⟨b, _, none⟩) hl).trans e2, (hb.cell (p := ⟨b, _, none⟩) hl).trans e3, h1.below hb, h2.below hb, h3, h4⟩
theorem RL.below (h : RL W A qs) (hb : Below W.heap.size W W') : RL W' A qs := fun h0 => by
 obtain ⟨b, off, e, hl, hi⟩ := h h0
 exact ⟨b, off, e, Nat.lt_of_lt_of_le hl hb.size, fun i h2 => (hi i h2).below hb hl⟩
end
theorem list_pick {α : Type} (d : α) {p : Nat → α → Prop} : ∀ (n : Nat), (∀ i, i < n → ∃ x, p i x) → ∃ l : List α, l.length = n ∧ ∀ i, i < n → p i (l.getD i d)
 | 0, _ => ⟨[], rfl, fun i hi => by omega⟩
 | n + 1, h => by
  obtain ⟨l, hl, hp⟩ := list_pick d n fun i hi => h i (by omega)
  obtain ⟨x, hx⟩ := h n (by omega)
  refine ⟨l ++ [x], by simp [hl], fun i hi => ?_⟩
  rcases Nat.lt_or_ge i n with h1 | h1
  ·rw [List.getD_eq_getElem?_getD, List.getElem?_append_left (by omega), ← List.getD_eq_getElem?_getD]; exact hp i h1
  ·obtain rfl : i = n := by omega
   rw [List.getD_eq_getElem?_getD, List.getElem?_append_right (by omega), hl, Nat.sub_self]; exact hx
def El2 (W : World) (b o : Nat) (u v : Value) : Prop := b < W.heap.size ∧ W.cell? ⟨b, o, none⟩ = some u ∧ W.cell? ⟨b, o + 1, none⟩ = some v
def El4 (W : World) (b o : Nat) (u v x y : Value) : Prop := b < W.heap.size ∧ W.cell? ⟨b, o, none⟩ = some u ∧ W.cell? ⟨b, o + 1, none⟩ = some v ∧ W.cell? ⟨b, o + 2, none⟩ = some x ∧ W.cell? ⟨b, o + 3, none⟩ = some y
section
variable {W W' : World} {b o : Nat} {u v x y : Value}
theorem El2.below (h : El2 W b o u v) (hb : Below W.heap.size W W') : El2 W' b o u v := ⟨Nat.lt_of_lt_of_le h.1 hb.size, (hb.cell (p := ⟨b, _, none⟩) h.1).trans h.2.1, (hb.cell (p := ⟨b, _, none⟩) h.1).trans h.2.2⟩
theorem El4.below (h : El4 W b o u v x y) (hb : Below W.heap.size W W') : El4 W' b o u v x y :=
 ⟨Nat.lt_of_lt_of_le h.1 hb.size, (hb.cell (p := ⟨b, _, none⟩) h.1).trans h.2.1, (hb.cell (p := ⟨b, _, none⟩) h.1).trans h.2.2.1, (hb.cell (p := ⟨b, _, none⟩) h.1).trans h.2.2.2.1, (hb.cell (p := ⟨b, _, none⟩) h.1).trans h.2.2.2.2⟩
theorem El2.cs (h : El2 W b o u v) : W.cell? ⟨b, o, none⟩ = some u ∧ W.cell? ⟨b, o + 1, none⟩ = some v := h.2
theorem El4.cs (h : El4 W b o u v x y) : W.cell? ⟨b, o, none⟩ = some u ∧ W.cell? ⟨b, o + 1, none⟩ = some v ∧ W.cell? ⟨b, o + 2, none⟩ = some x ∧ W.cell? ⟨b, o + 3, none⟩ = some y := h.2
theorem El2.hc (h : El2 w b o u v) : Hid (∀ W, Below w.heap.size w W → W.cell? ⟨b, o, none⟩ = some u ∧ W.cell? ⟨b, o + 1, none⟩ = some v) := Hi fun _ hb => (h.below hb).cs
theorem El4.hc (h : El4 w b o u v x y) : Hid (∀ W, Below w.heap.size w W → W.cell? ⟨b, o, none⟩ = some u ∧ W.cell? ⟨b, o + 1, none⟩ = some v ∧ W.cell? ⟨b, o + 2, none⟩ = some x ∧ W.cell? ⟨b, o + 3, none⟩ = some y) := Hi fun _ hb => (h.below hb).cs
theorem El2.two (h : El2 W b o u v) {p : Nat} (hne : b ≠ p) (x y : Value) : El2 ((W.setCell ⟨p, 0, none⟩ x).setCell ⟨p, 1, none⟩ y) b o u v := by
 have e : ∀ (W : World) (i k : Nat) (z : Value), (W.setCell ⟨p, k, none⟩ z).cell? ⟨b, i, none⟩ = W.cell? ⟨b, i, none⟩ := fun W i k z => by apply World.cell?_setCell_other; intro h; exact hne (by cases h; rfl)
 refine ⟨?_, ?_, ?_⟩
 ·simpa [World.setCell] using h.1
 ·rw [e, e]; exact h.2.1
 ·rw [e, e]; exact h.2.2
end
end Go.Proofs.YtgljdfblgpdaaaaGreatDoor
