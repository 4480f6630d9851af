import Derived.Test.YtgljdfblgpdaaaaGreatDoorFiRatMac
import Derived.Test.YtgljdfblgpdaaaaGreatDoorFiRatQ
set_option linter.unusedSimpArgs false
set_option linter.unusedVariables false
set_option maxRecDepth 100000
set_option maxHeartbeats 4000000
namespace Go.Proofs.YtgljdfblgpdaaaaGreatDoor
open Go Go.RowKit Go.Shelf
def backB (md : Region.Mode) (ops : Array Oper) : Bool := (List.range ops.size).all fun j => (ops[j]?).all fun o => o.after.all fun e => !Region.binds md e || decide (e.on < j)
theorem none_left {md : Region.Mode} {ops : Array Oper} {L : Array Bool} (hb : backB md ops = true) (hs : L.size = ops.size) (he : Region.ready md ops L = []) : ∀ j, j < ops.size → L.getD j true = true := by
 intro j
 induction j using Nat.strongRecOn with
 | _ j ih =>
  intro hj
  cases hl : L.getD j true with
  | true => rfl
  | false =>
   have h3 := List.all_eq_true.1 hb j (List.mem_range.2 hj)
   have h1 : ops[j]? = some ops[j] := Array.getElem?_eq_getElem hj
   rw [h1] at h3
   simp only [Option.all_some] at h3
   have hr : j ∈ Region.ready md ops L := mem_ready.2 ⟨hl, ops[j], h1, fun e he hb => by
    have h4 := Array.all_eq_true'.1 h3 e he
    simp only [hb, Bool.not_true, Bool.false_or, decide_eq_true_eq] at h4
    have h5 := ih e.on h4 (by omega)
    rw [Array.getD_eq_getD_getElem?, Array.getElem?_eq_getElem (by omega)] at h5 ⊢
    exact h5⟩
   rw [he] at hr
   cases hr
def bd0 (d : Bool) (v : QW) : Value := if d then .bool v.n else .bool false
def bd1 (d : Bool) (v : QW) : Value := if d then .slice v.A v.l.length v.c else .slice none 0 0
def bd2 (d : Bool) (v : QW) : Value := if d then .bool v.m else .bool false
def bd3 (d : Bool) (v : QW) : Value := if d then .slice v.B v.k.length v.d else .slice none 0 0
def LaidQ (W1 : World) (M : Nat) (q : Rat) (x : Value) (wx : World) (b : Nat) (v : QW) : Prop :=
 x = .pointer (some ⟨b, 0, none⟩) ∧ W1.heap.size ≤ b ∧ Box4 wx b (.bool v.n) (.slice v.A v.l.length v.c) (.bool v.m) (.slice v.B v.k.length v.d) ∧ QV M wx v q
def Laid4 (W1 : World) (M0 M1 M2 M3 : Nat) (q0 q1 q2 q3 : Rat) (x0 x1 x2 x3 : Value) (wx : World) : Prop :=
 ∃ v0 v1 v2 v3 b0 b1 b2 b3, LaidQ W1 M0 q0 x0 wx b0 v0 ∧ LaidQ W1 M1 q1 x1 wx b1 v1 ∧ LaidQ W1 M2 q2 x2 wx b2 v2 ∧ LaidQ W1 M3 q3 x3 wx b3 v3 ∧ (b0 ≠ b1 ∧ b0 ≠ b2 ∧ b0 ≠ b3 ∧ b1 ≠ b2 ∧ b1 ≠ b3 ∧ b2 ≠ b3) ∧ Below W1.heap.size W1 wx
def Laid1 (W1 : World) (M : Nat) (q : Rat) (x e : Value) (wx : World) : Prop := ∃ v b, LaidQ W1 M q x wx b v ∧ e = .int .i64 0 ∧ Below W1.heap.size W1 wx
end Go.Proofs.YtgljdfblgpdaaaaGreatDoor
