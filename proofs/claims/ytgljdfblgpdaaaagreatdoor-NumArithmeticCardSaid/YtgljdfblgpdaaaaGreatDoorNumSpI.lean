/- A measure of two boxes, for the specification's Gcd. -/
import Derived.Test.YtgljdfblgpdaaaaGreatDoorNumSpH
import Derived.Test.YtgljdfblgpdaaaaGreatDoorNumPwB
set_option linter.unusedSimpArgs false
set_option linter.unusedVariables false
namespace Go.Proofs.YtgljdfblgpdaaaaGreatDoor
open Go.RowKit Go.Shelf

theorem ws_uniq {W : World} {A : Option Addr} {l k : List Nat} (h : WS W A l) (h2 : WS W A k) (hl : l.length = k.length) : l = k := by
  refine list_eq_gd hl fun j hj => ?_
  obtain ⟨b, off, e, _, hc⟩ := h.at_ (by omega)
  obtain ⟨b', off', e', _, hc'⟩ := h2.at_ (by omega)
  rw [e] at e'
  injection e' with e'
  injection e' with e1 e2
  subst e1 e2
  have h3 := (hc j hj).symm.trans (hc' j (by omega))
  injection h3 with h3
  injection h3 with _ h3
  omega
theorem box_uniq {W : World} {q : Nat} {n n' : Bool} {A A' : Option Addr} {c c' : Nat} {l l' : List Nat} {z z' : Int} (b : Box2 W q (.bool n) (.slice A l.length c)) (b' : Box2 W q (.bool n') (.slice A' l'.length c')) (i : IV W n A c l z) (i' : IV W n' A' c' l' z') : z = z' := by
  have e0 := b.cell0.symm.trans b'.cell0
  have e1 := b.cell1.symm.trans b'.cell1
  injection e0 with e0
  injection e0 with e0
  injection e1 with e1
  injection e1 with e1 e2 e3
  subst e0 e1
  obtain rfl := ws_uniq i.ws i'.ws e2
  exact i.val.symm.trans i'.val
theorem PwB.uniq {w W : World} {p q : Nat} {x y x' y' : Int} (h : PwB w p q x y W) (h' : PwB w p q x' y' W) : y = y' := by
  obtain ⟨n1, A1, c1, l1, n2, A2, c2, l2, bp, bq, i1, i2, _⟩ := h
  obtain ⟨m1, B1, d1, k1, m2, B2, d2, k2, bp', bq', j1, j2, _⟩ := h'
  exact box_uniq bq bq' i2 j2
theorem PwB.meas (w : World) (p q : Nat) : ∃ mz : World → Nat, ∀ W x y, PwB w p q x y W → mz W = y.natAbs := by
  classical
  refine ⟨fun W => if h : ∃ y, ∃ x, PwB w p q x y W then (Classical.choose h).natAbs else 0, fun W x y h => ?_⟩
  have hex : ∃ y, ∃ x, PwB w p q x y W := ⟨y, x, h⟩
  obtain ⟨x', hx'⟩ := Classical.choose_spec hex
  show (if h : ∃ y, ∃ x, PwB w p q x y W then (Classical.choose h).natAbs else 0) = _
  rw [dif_pos hex, hx'.uniq h]
end Go.Proofs.YtgljdfblgpdaaaaGreatDoor
