/- Two boxes of integers. -/
import Derived.Test.YtgljdfblgpdaaaaGreatDoorNumSpB
import Derived.Deep.DeepCutAuto
import Derived.Outline
set_option linter.unusedSimpArgs false
set_option linter.unusedVariables false
namespace Go.Proofs.YtgljdfblgpdaaaaGreatDoor
open Go.RowKit Go.Shelf

theorem Box2.stored {W : World} {p : Nat} {u v : Value} (h : Box2 W p u v) (x y : Value) : Box2 ((W.setCell ⟨p, 0, none⟩ x).setCell ⟨p, 1, none⟩ y) p x y := (h.set0 _).set1 _
theorem Box2.stored' {W : World} {p : Nat} (h : Box2 W p (.bool false) (.slice none 0 0)) (x y : Value) : Box2 ((W.setCell ⟨p, 0, none⟩ x).setCell ⟨p, 1, none⟩ y) p x y := (h.set0 _).set1 _
/-- Two boxes of integers, that were not there in the world w. -/
def PwB (w : World) (p q : Nat) (x y : Int) (W : World) : Prop :=
  ∃ n A c l n' A' c' l', Box2 W p (.bool n) (.slice A l.length c) ∧ Box2 W q (.bool n') (.slice A' l'.length c') ∧ IV W n A c l x ∧ IV W n' A' c' l' y ∧ p ≠ q ∧ w.heap.size ≤ p ∧ w.heap.size ≤ q ∧ Below w.heap.size w W
def PwAt (w : World) (x y : Int) (s t : Value) (W : World) : Prop := ∃ p q, s = .pointer (some ⟨p, 0, none⟩) ∧ t = .pointer (some ⟨q, 0, none⟩) ∧ PwB w p q x y W
theorem IV.two {W : World} {n : Bool} {A : Option Addr} {c : Nat} {l : List Nat} {z : Int} (h : IV W n A c l z) {p : Nat} {u : Bool} {B : Option Addr} {k d : Nat} (hb : Box2 W p (.bool u) (.slice B k d)) (x y : Value) :
    IV ((W.setCell ⟨p, 0, none⟩ x).setCell ⟨p, 1, none⟩ y) n A c l z := ⟨h.cap, h.ws.two (ws_off_box hb (by simp) h.ws) _ _, h.can, h.val, h.len⟩
theorem PwB.set_p {w W w2 : World} {p q : Nat} {x y v : Int} {n : Bool} {A : Option Addr} {c : Nat} {l : List Nat} (h : PwB w p q x y W) (hb : Below W.heap.size W w2) (i : IV w2 n A c l v) :
    PwB w p q v y ((w2.setCell ⟨p, 0, none⟩ (.bool n)).setCell ⟨p, 1, none⟩ (.slice A l.length c)) := by
  obtain ⟨n1, A1, c1, l1, n2, A2, c2, l2, bp, bq, i1, i2, hne, hp, hq, hbl⟩ := h
  exact ⟨n, A, c, l, n2, A2, c2, l2, (bp.below hb).stored _ _, (bq.below hb).far (fun e => hne e.symm) _ _, i.two (bp.below hb) _ _, (i2.below hb).two (bp.below hb) _ _, hne, hp, hq, b2 (bt hbl hb) hp _ _⟩
theorem PwB.set_q {w W w2 : World} {p q : Nat} {x y v : Int} {n : Bool} {A : Option Addr} {c : Nat} {l : List Nat} (h : PwB w p q x y W) (hb : Below W.heap.size W w2) (i : IV w2 n A c l v) :
    PwB w p q x v ((w2.setCell ⟨q, 0, none⟩ (.bool n)).setCell ⟨q, 1, none⟩ (.slice A l.length c)) := by
  obtain ⟨n1, A1, c1, l1, n2, A2, c2, l2, bp, bq, i1, i2, hne, hp, hq, hbl⟩ := h
  exact ⟨n1, A1, c1, l1, n, A, c, l, (bp.below hb).far hne _ _, (bq.below hb).stored _ _, (i1.below hb).two (bq.below hb) _ _, i.two (bq.below hb) _ _, hne, hp, hq, b2 (bt hbl hb) hq _ _⟩
end Go.Proofs.YtgljdfblgpdaaaaGreatDoor
