import Derived.Test.YtgljdfblgpdaaaaGreatDoorTyRatTa
set_option linter.unusedSimpArgs false
set_option linter.unusedVariables false
set_option maxRecDepth 100000
set_option maxHeartbeats 4000000
namespace Go.Proofs.YtgljdfblgpdaaaaGreatDoor
open Go Go.RowKit Go.Shelf
theorem idx_none {l : List UInt8} {c : UInt8} (h : ∀ j, j < l.length → l[j]? ≠ some c) : Lib.indexByte l c = -1 := by
  rcases (show (Lib.indexByte l c) < 0 ∨ 0 ≤ (Lib.indexByte l c) by omega) with h1 | h1
  · have := Lib.indexByte_ge l c
    omega
  · exfalso
    obtain ⟨o, ho⟩ : ∃ o : Nat, Lib.indexByte l c = o := ⟨(Lib.indexByte l c).toNat, by omega⟩
    have h2 := (Lib.indexByte_some ho).1
    exact h o (List.getElem?_eq_some_iff.1 h2).1 h2
theorem get_byt {s : ByteArray} {j : Nat} (hj : j < s.size) : s.data.toList[j]? = some 47 ↔ byt s j = 47 := by
  have h1 : s.data.toList[j]? = some s[j] := List.getElem?_eq_getElem (by simpa using hj)
  rw [h1, byt_at hj, Option.some.injEq]
  constructor
  · intro h; rw [h]; rfl
  · intro h; exact UInt8.toNat_inj.1 h
theorem idx_no {s : ByteArray} (h : ∀ j, j < s.size → byt s j ≠ 47) : Lib.indexByte s.data.toList 47 = -1 :=
  idx_none fun j hj e => by
    have hj' : j < s.size := by simpa using hj
    exact h j hj' ((get_byt hj').1 e)
theorem idx_yes {s : ByteArray} {i : Nat} (hi : i < s.size) (h : (s[i].toNat : Int) = 47) (hn : ∀ j, j < i → byt s j ≠ 47) : Lib.indexByte s.data.toList 47 = (i : Int) := by
  have h1 : s.data.toList[i]? = some 47 := (get_byt hi).2 (by rw [byt_at hi]; omega)
  rcases (show (Lib.indexByte s.data.toList 47) < 0 ∨ 0 ≤ (Lib.indexByte s.data.toList 47) by omega) with h2 | h2
  · have := Lib.indexByte_ge s.data.toList 47
    exact absurd h1 (Lib.indexByte_none (by omega) i)
  · obtain ⟨o, ho⟩ : ∃ o : Nat, Lib.indexByte s.data.toList 47 = o := ⟨(Lib.indexByte s.data.toList 47).toNat, by omega⟩
    obtain ⟨h3, h4⟩ := Lib.indexByte_some ho
    have ho' : o < s.size := by simpa using (List.getElem?_eq_some_iff.1 h3).1
    rcases Nat.lt_trichotomy o i with h5 | h5 | h5
    · exact absurd ((get_byt ho').1 h3) (hn o h5)
    · rw [ho, h5]
    · exact absurd h1 (h4 i h5)
theorem byt_ext {s : ByteArray} {p : Nat} (h : p < s.size) : byt (s.extract p s.size) 0 = s[p].toNat := by
  have h0 : 0 < (s.extract p s.size).size := by simp; omega
  rw [byt_at h0]
  have h1 : (s.extract p s.size).data.toList[0]? = some (s.extract p s.size)[0] := List.getElem?_eq_getElem (by simpa using h0)
  have h2 : s.data.toList[p]? = some s[p] := List.getElem?_eq_getElem (by simpa using h)
  rw [ext_list, List.getElem?_drop, Nat.add_zero, h2] at h1
  injection h1 with h1
  rw [h1]
theorem ext_all (s : ByteArray) : s.extract 0 s.size = s := by simp
theorem gcd_lt {W : World} {n m : Bool} {A B : Option Addr} {c d : Nat} {l k : List Nat} {x y : Int} (h : IV W n A c l x) (h2 : IV W m B d k y) : Lt 2100 ((Nat.gcd x.natAbs y.natAbs : Nat) : Int) := by
  by_cases hz : y = 0
  · rw [hz]
    have h := lt_le (lt_val h.ws h.val) h.len
    unfold Lt at h ⊢
    simpa using h
  · have h := lt_le (lt_val h2.ws h2.val) h2.len
    have h2 : Nat.gcd x.natAbs y.natAbs ≤ y.natAbs := Nat.gcd_le_right _ (by omega)
    unfold Lt at h ⊢
    rw [Int.natAbs_natCast]
    omega
def RDY (w : World) (s : ByteArray) (e : Ending) (w' : World) : Prop :=
  (Lib.indexByte s.data.toList 47 = -1 ∧ ((txe s = 0 ∧ RQE w (txv s) 1 0 e w') ∨ (txe s ≠ 0 ∧ RQE w 0 0 (txe s) e w'))) ∨
  (∃ (k : Nat) (a b : ByteArray), Lib.indexByte s.data.toList 47 = (k : Int) ∧ a = s.extract 0 k ∧ b = s.extract (k + 1) s.size ∧ ((rc2 a b = 0 ∧ RQE w (txv a) (txv b) 0 e w') ∨ (rc2 a b ≠ 0 ∧ RQE w 0 0 (rc2 a b) e w')))
section
variable {w W : World} {s a b : ByteArray} {k r : Nat} {er : Int}
theorem rqe_zero (hW : Below w.heap.size w W) (hp : w.heap.size ≤ r) (hbx : Box4 W r (.bool false) (.slice none 0 0) (.bool false) (.slice none 0 0)) :
    RQE w 0 0 er (.returned (.tuple #[.agg #[.bool false, .slice none 0 0, .bool false, .slice none 0 0], .int .i64 er])) ((((W.setCell ⟨r, 0, none⟩ (.bool false)).setCell ⟨r, 1, none⟩ (.slice none 0 0)).setCell ⟨r, 2, none⟩ (.bool false)).setCell ⟨r, 3, none⟩ (.slice none 0 0)) :=
  rqe_store hW hp hbx (iv_nil W) (iv_nil W)
theorem RDY.bad (hk : Lib.indexByte s.data.toList 47 = (k : Int)) (ha : a = s.extract 0 k) (hb : b = s.extract (k + 1) s.size) (h : rc2 a b = er) (h0 : er ≠ 0) (hW : Below w.heap.size w W) (hbx : Box4 W w.heap.size (.bool false) (.slice none 0 0) (.bool false) (.slice none 0 0)) :
    RDY w s (.returned (.tuple #[.agg #[.bool false, .slice none 0 0, .bool false, .slice none 0 0], .int .i64 er])) ((((W.setCell ⟨w.heap.size, 0, none⟩ (.bool false)).setCell ⟨w.heap.size, 1, none⟩ (.slice none 0 0)).setCell ⟨w.heap.size, 2, none⟩ (.bool false)).setCell ⟨w.heap.size, 3, none⟩ (.slice none 0 0)) :=
  .inr ⟨k, a, b, hk, ha, hb, .inr ⟨by rw [h]; exact h0, by rw [h]; exact rqe_zero hW (Nat.le_refl _) hbx⟩⟩
theorem RDY.good {e : Ending} {w' : World} (hk : Lib.indexByte s.data.toList 47 = (k : Int)) (ha : a = s.extract 0 k) (hb : b = s.extract (k + 1) s.size) (h : rc2 a b = 0) (hq : RQE w (txv a) (txv b) 0 e w') : RDY w s e w' :=
  .inr ⟨k, a, b, hk, ha, hb, .inl ⟨h, hq⟩⟩
theorem RDY.none (hk : Lib.indexByte s.data.toList 47 = -1) (h0 : txe s ≠ 0) (h : er = txe s) (hW : Below w.heap.size w W) (hbx : Box4 W w.heap.size (.bool false) (.slice none 0 0) (.bool false) (.slice none 0 0)) :
    RDY w s (.returned (.tuple #[.agg #[.bool false, .slice none 0 0, .bool false, .slice none 0 0], .int .i64 er])) ((((W.setCell ⟨w.heap.size, 0, none⟩ (.bool false)).setCell ⟨w.heap.size, 1, none⟩ (.slice none 0 0)).setCell ⟨w.heap.size, 2, none⟩ (.bool false)).setCell ⟨w.heap.size, 3, none⟩ (.slice none 0 0)) :=
  .inl ⟨hk, .inr ⟨h0, by rw [← h]; exact rqe_zero hW (Nat.le_refl _) hbx⟩⟩
theorem RDY.whole {e : Ending} {w' : World} (hk : Lib.indexByte s.data.toList 47 = -1) (h0 : txe s = 0) (hq : RQE w (txv s) 1 0 e w') : RDY w s e w' := .inl ⟨hk, .inl ⟨h0, hq⟩⟩
end
end Go.Proofs.YtgljdfblgpdaaaaGreatDoor
