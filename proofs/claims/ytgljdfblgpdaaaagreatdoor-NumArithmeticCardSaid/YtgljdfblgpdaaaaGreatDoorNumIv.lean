/- Integers that lie as words, by value: what num's calls give of them (for the laws that state theorems). -/
import Derived.Test.YtgljdfblgpdaaaaGreatDoorNumSane
import Derived.Test.YtgljdfblgpdaaaaGreatDoorNumEx
import Derived.Test.YtgljdfblgpdaaaaGreatDoorNumProd
set_option linter.unusedSimpArgs false
set_option linter.unusedVariables false
namespace Go.Proofs.YtgljdfblgpdaaaaGreatDoor
open Go.RowKit

/-- An integer below 2^(32 i) in absolute value. -/
def Lt (i : Nat) (z : Int) : Prop := z.natAbs < BB i
theorem lt_le {i j : Nat} {z : Int} (h : Lt i z) (hij : i ≤ j) : Lt j z := Nat.lt_of_lt_of_le h (BB_mono hij)
theorem lt_neg {i : Nat} {z : Int} (h : Lt i z) : Lt i (-z) := by unfold Lt at *; rwa [Int.natAbs_neg]
theorem lt_mul {i j : Nat} {x y : Int} (h : Lt i x) (k : Lt j y) : Lt (i + j) (x * y) := by
  unfold Lt at *
  rw [Int.natAbs_mul, BB_add]
  exact Nat.mul_lt_mul'' h k
theorem lt_add {i j : Nat} {x y : Int} (h : Lt i x) (k : Lt j y) : Lt (i + j + 1) (x + y) := by
  unfold Lt at *
  have h1 := Int.natAbs_add_le x y
  have h2 := BB_mono (show i ≤ i + j by omega)
  have h3 := BB_mono (show j ≤ i + j by omega)
  have h4 := BB_succ (i + j)
  have h5 := BB_pos (i + j)
  omega
theorem lt_sub {i j : Nat} {x y : Int} (h : Lt i x) (k : Lt j y) : Lt (i + j + 1) (x - y) := by
  rw [Int.sub_eq_add_neg]; exact lt_add h (lt_neg k)
theorem lt_one {z : Int} (h : z.natAbs < 4294967296) : Lt 1 z := h
theorem lt_val {W : World} {A : Option Addr} {n : Bool} {l : List Nat} (h : WS W A l) {z : Int} (hz : zI n l = z) : Lt l.length z := by
  have e : val l = z.natAbs := by rw [← hz]; unfold zI; split <;> simp
  unfold Lt
  rw [← e]
  exact val_lt h.1

/-- The words of the integer z, of at most 300 words, in canonical form. -/
structure IV (W : World) (n : Bool) (A : Option Addr) (c : Nat) (l : List Nat) (z : Int) : Prop where
  cap : l.length ≤ c
  ws : WS W A l
  can : isB n l = true
  val : zI n l = z
  len : l.length ≤ 300
theorem IV.below {W W' : World} {n : Bool} {A : Option Addr} {c : Nat} {l : List Nat} {z : Int} (h : IV W n A c l z) (hb : Below W.heap.size W W') : IV W' n A c l z :=
  ⟨h.cap, h.ws.below hb, h.can, h.val, h.len⟩
theorem IV.of {W : World} {n : Bool} {A : Option Addr} {c : Nat} {l : List Nat} {z : Int} (hc : l.length ≤ c) (hw : WS W A l) (hB : isB n l = true) (hz : zI n l = z) (hlt : Lt 300 z) : IV W n A c l z := by
  refine ⟨hc, hw, hB, hz, top_len (isB_top hB) ?_⟩
  have e : Go.Proofs.YtgljdfblgpdaaaaGreatDoor.val l = z.natAbs := by rw [← hz]; unfold zI; split <;> simp
  rw [e]
  exact hlt
/-- A call returned the integer z and turned nothing that lay. -/
def RIV (w : World) (z : Int) (e : Ending) (w' : World) : Prop :=
  ∃ n A c l, e = .returned (.agg #[.bool n, .slice A l.length c]) ∧ IV w' n A c l z ∧ Below w.heap.size w w'
theorem IRes.iv {w : World} {x z : Int} {e : Ending} {w' : World} (h : IRes w x e w') (hx : x = z) (hlt : Lt 300 z) : RIV w z e w' := by
  obtain ⟨n, A, c, l, he, hc, hw, hB, hz, hb⟩ := h
  exact ⟨n, A, c, l, he, .of hc hw.ws hB (hz.trans hx) hlt, hb⟩
theorem sgn_eq {n : Bool} {l : List Nat} (hB : isB n l = true) : sgn true n l = cmpI (zI n l) 0 := by
  have h0 := val_eq_zero (isB_top hB)
  unfold sgn cmpI zI
  by_cases hl : l.length = 0
  · have hl' : l = [] := List.eq_nil_of_length_eq_zero hl
    subst hl'
    cases n <;> simp [val]
  · have hv : 0 < val l := by
      rcases Nat.eq_zero_or_pos (val l) with h | h
      · rw [h0.1 h] at hl; exact absurd rfl hl
      · exact h
    cases n
    · rw [if_neg (by simp [hl]), if_neg (by simp), if_neg (by simp), if_neg (by simp; omega)]
    · rw [if_neg (by simp [hl]), if_pos rfl, if_pos rfl, if_pos (by omega)]

section
variable {w : World} {n m : Bool} {A B : Option Addr} {c d : Nat} {l k : List Nat} {x y z : Int}
theorem Add_iv (h : IV w n A c l x) (h2 : IV w m B d k y) (hz : x + y = z) (hlt : Lt 300 z) :
    Calls Tryz.prog 18 #[.agg #[.bool n, .slice A l.length c], .agg #[.bool m, .slice B k.length d]] w (RIV w z) := by
  have e1 := h.len
  have e2 := h2.len
  refine (Add_any w w n m A B l.length c k.length d l k true true rfl rfl (by omega) (by omega) h.ws h2.ws h.can h2.can (b0 _)).mono fun e w' hr => hr.iv ?_ hlt
  rw [h.val, h2.val]; exact hz
theorem Sub_iv (h : IV w n A c l x) (h2 : IV w m B d k y) (hz : x - y = z) (hlt : Lt 300 z) :
    Calls Tryz.prog 20 #[.agg #[.bool n, .slice A l.length c], .agg #[.bool m, .slice B k.length d]] w (RIV w z) := by
  have e1 := h.len
  have e2 := h2.len
  refine (Sub_any w w n m A B l.length c k.length d l k true true rfl rfl (by omega) (by omega) h.ws h2.ws h.can h2.can (b0 _)).mono fun e w' hr => hr.iv ?_ hlt
  rw [h.val, h2.val]; exact hz
theorem Mul_iv (h : IV w n A c l x) (h2 : IV w m B d k y) (hz : x * y = z) (hlt : Lt 300 z) :
    Calls Tryz.prog 22 #[.agg #[.bool n, .slice A l.length c], .agg #[.bool m, .slice B k.length d]] w (RIV w z) := by
  have e1 := h.len
  have e2 := h2.len
  refine (Mul_all w w n m A B l.length c k.length d l k true true rfl rfl (by omega) (by omega) h.cap h2.cap h.ws h2.ws h.can h2.can (b0 _)).mono fun e w' hr => hr.iv ?_ hlt
  rw [h.val, h2.val]; exact hz
theorem Neg_iv (h : IV w n A c l x) (hz : -x = z) (hlt : Lt 300 z) :
    Calls Tryz.prog 82 #[.agg #[.bool n, .slice A l.length c]] w (RIV w z) := by
  have e1 := h.len
  refine (Neg_any w w n A l.length c l true rfl (by omega) h.ws h.can (b0 _)).mono fun e w' hr => hr.iv ?_ hlt
  rw [h.val]; exact hz
theorem Abs_iv (h : IV w n A c l x) (hz : (x.natAbs : Int) = z) (hlt : Lt 300 z) :
    Calls Tryz.prog 83 #[.agg #[.bool n, .slice A l.length c]] w (RIV w z) := by
  have e1 := h.len
  refine (Abs_any w w n A l.length c l true rfl (by omega) h.ws h.can (b0 _)).mono fun e w' hr => hr.iv ?_ hlt
  rw [val_abs h.val]; exact hz
theorem Of_iv (w : World) (x : Int) (h1 : -4294967296 < x) (h2 : x < 4294967296) :
    Calls Tryz.prog 77 #[.int .i64 x] w (RIV w x) :=
  (Of_any w w x (by omega) (by omega) (b0 _)).mono fun e w' hr => hr.iv rfl (lt_le (lt_one (by omega)) (by decide))
theorem Same_iv (h : IV w n A c l x) (h2 : IV w m B d k x) :
    Calls Tryz.prog 17 #[.agg #[.bool n, .slice A l.length c], .agg #[.bool m, .slice B k.length d]] w fun e w' => e = .returned (.bool true) ∧ Below w.heap.size w w' := by
  have e1 := h.len
  have e2 := h2.len
  exact same_of h.ws h2.ws h.can h2.can h.val h2.val (by omega) (by omega)
theorem Cmp_iv (h : IV w n A c l x) (h2 : IV w m B d k y) {v : Int} (hv : cmpI x y = v) :
    Calls Tryz.prog 80 #[.agg #[.bool n, .slice A l.length c], .agg #[.bool m, .slice B k.length d]] w fun e w' => e = .returned (.int .i64 v) ∧ Below w.heap.size w w' := by
  have e1 := h.len
  have e2 := h2.len
  have r := Cmp_any n m A B l.length c k.length d l k true true w rfl rfl (by omega) (by omega) h.ws h2.ws h.can h2.can
  rwa [if_pos (show (true && true) = true from rfl), h.val, h2.val, hv] at r
theorem Sign_iv (h : IV w n A c l x) {v : Int} (hv : cmpI x 0 = v) :
    Calls Tryz.prog 79 #[.agg #[.bool n, .slice A l.length c]] w fun e w' => e = .returned (.int .i64 v) ∧ Below w.heap.size w w' := by
  have e1 := h.len
  have r := Sign_any n A l.length c l true w rfl (by omega) h.ws h.can
  rwa [sgn_eq h.can, h.val, hv] at r
end
theorem cmpI_three (x y : Int) : cmpI x y = -1 ∨ cmpI x y = 0 ∨ cmpI x y = 1 := by unfold cmpI; split; exact Or.inl rfl; split; exact Or.inr (Or.inl rfl); exact Or.inr (Or.inr rfl)
theorem cmpI_swap (x y : Int) : cmpI y x = - cmpI x y := by unfold cmpI; repeat' split <;> omega
theorem cmpI_sub (x y : Int) : cmpI (x - y) 0 = cmpI x y := by unfold cmpI; repeat' split <;> omega
theorem cmpI_addr (x y z : Int) : cmpI (x + z) (y + z) = cmpI x y := by unfold cmpI; repeat' split <;> omega
theorem cmpI_le {x y : Int} : cmpI x y ≤ 0 ↔ x ≤ y := by unfold cmpI; repeat' split <;> omega
theorem cmpI_gt {x y : Int} : 0 < cmpI x y ↔ y < x := by unfold cmpI; repeat' split <;> omega
theorem cmpI_mulr {x y z : Int} (h : 0 < z) : cmpI (x * z) (y * z) = cmpI x y := by
  unfold cmpI
  have h1 : x * z < y * z ↔ x < y := Int.mul_lt_mul_right h
  have h2 : x * z = y * z ↔ x = y := ⟨fun e => Int.eq_of_mul_eq_mul_right (by omega) e, fun e => by rw [e]⟩
  simp only [h1, h2]
end Go.Proofs.YtgljdfblgpdaaaaGreatDoor

/- NumRing: integers in boxes. -/
namespace Go.Proofs.YtgljdfblgpdaaaaGreatDoor
open Go.RowKit

/-- An integer lies in the box p: its sign and its words. -/
structure IntAt (W : World) (p : Nat) (n : Bool) (A : Option Addr) (c : Nat) (l : List Nat) (z : Int) : Prop where
  c0 : W.cell? ⟨p, 0, none⟩ = some (.bool n)
  c1 : W.cell? ⟨p, 1, none⟩ = some (.slice A l.length c)
  cap : l.length ≤ c
  ws : WS W A l
  can : isB n l = true
  val : zI n l = z
theorem cell_below {W W' : World} {a : Addr} {v : Value} (h : W.cell? a = some v) (hb : Below W.heap.size W W') : W'.cell? a = some v :=
  (World.cell?_of_block (hb.block _ (World.block_lt_of_cell? W a h))).trans h
theorem IntAt.below {W W' : World} {p : Nat} {n : Bool} {A : Option Addr} {c : Nat} {l : List Nat} {z : Int} (h : IntAt W p n A c l z) (hb : Below W.heap.size W W') : IntAt W' p n A c l z :=
  ⟨cell_below h.c0 hb, cell_below h.c1 hb, h.cap, h.ws.below hb, h.can, h.val⟩
theorem IntAt.new {W : World} {n : Bool} {A : Option Addr} {c : Nat} {l : List Nat} {z : Int} (hc : l.length ≤ c) (hw : WS W A l) (hB : isB n l = true) (hz : zI n l = z) :
    IntAt (W.alloc (.cells #[.bool n, .slice A l.length c] 24)) W.heap.size n A c l z :=
  ⟨(Box2.new W _ _).cell0, (Box2.new W _ _).cell1, hc, hw.below (ba (b0 _) _), hB, hz⟩
theorem IntAt.store {W : World} {p : Nat} {u v : Value} {n : Bool} {A : Option Addr} {c : Nat} {l : List Nat} {z : Int} (hb : Box2 W p u v) (hc : l.length ≤ c) (hw : WS W A l) (ho : Off A l p) (hB : isB n l = true) (hz : zI n l = z) :
    IntAt ((W.setCell ⟨p, 0, none⟩ (.bool n)).setCell ⟨p, 1, none⟩ (.slice A l.length c)) p n A c l z :=
  ⟨((hb.set0 _).set1 _).cell0, ((hb.set0 _).set1 _).cell1, hc, hw.two ho _ _, hB, hz⟩
theorem IntAt.new' {W : World} {p : Nat} {n : Bool} {A : Option Addr} {c : Nat} {l : List Nat} {z : Int} (hc : l.length ≤ c) (hB : isB n l = true) (hz : zI n l = z) (hw : WS W A l) (hp : W.heap.size = p) :
    IntAt (W.alloc (.cells #[.bool n, .slice A l.length c] 24)) p n A c l z := hp ▸ IntAt.new hc hw hB hz
theorem IntAt.store' {W : World} {p : Nat} {n : Bool} {A : Option Addr} {c : Nat} {l : List Nat} {z : Int} (hc : l.length ≤ c) (hB : isB n l = true) (hz : zI n l = z) (hb : Box2 W p (.bool false) (.slice none 0 0)) (hw : WS W A l) (ho : Off A l p) :
    IntAt ((W.setCell ⟨p, 0, none⟩ (.bool n)).setCell ⟨p, 1, none⟩ (.slice A l.length c)) p n A c l z := IntAt.store hb hc hw ho hB hz
theorem Box2.new' {W : World} {p : Nat} {u v : Value} (hp : W.heap.size = p) : Box2 (W.alloc (.cells #[u, v] 24)) p u v := hp ▸ Box2.new W u v
theorem Box2.drew' {W : World} {p : Nat} {u v : Value} (h : Box2 W p u v) : Box2 W.drew p u v := h
theorem IntAt.alloc {W : World} {p : Nat} {n : Bool} {A : Option Addr} {c : Nat} {l : List Nat} {z : Int} (h : IntAt W p n A c l z) (o : Obj) : IntAt (W.alloc o) p n A c l z := h.below (ba (b0 _) _)
theorem IntAt.far {W : World} {p q : Nat} {n : Bool} {A : Option Addr} {c : Nat} {l : List Nat} {z : Int} (h : IntAt W p n A c l z) (hne : p ≠ q) (ho : Off A l q) (x y : Value) : IntAt ((W.setCell ⟨q, 0, none⟩ x).setCell ⟨q, 1, none⟩ y) p n A c l z := by
  have key : ∀ o, ((W.setCell ⟨q, 0, none⟩ x).setCell ⟨q, 1, none⟩ y).cell? ⟨p, o, none⟩ = W.cell? ⟨p, o, none⟩ := fun o =>
    World.cell?_of_block ((Below.heap_setCell _ _ _ _ (by show p ≠ q; exact hne)).trans (Below.heap_setCell _ _ _ _ (by show p ≠ q; exact hne)))
  exact ⟨(key 0).trans h.c0, (key 1).trans h.c1, h.cap, h.ws.two ho _ _, h.can, h.val⟩
theorem Box2.far {W : World} {p q : Nat} {u v : Value} (h : Box2 W p u v) (hne : p ≠ q) (x y : Value) : Box2 ((W.setCell ⟨q, 0, none⟩ x).setCell ⟨q, 1, none⟩ y) p u v := box2_far h hne x y
/-- What two boxes leave, wherever they lie. -/
def TwoAt (w : World) (x y : Int) (s t : Value) (W : World) : Prop :=
  ∃ p q n A c l n' A' c' l', s = .pointer (some ⟨p, 0, none⟩) ∧ t = .pointer (some ⟨q, 0, none⟩) ∧ IntAt W p n A c l x ∧ IntAt W q n' A' c' l' y ∧ Below w.heap.size w W

theorem IntAt.iv {W : World} {p : Nat} {n : Bool} {A : Option Addr} {c : Nat} {l : List Nat} {z : Int} (h : IntAt W p n A c l z) (hlt : Lt 300 z) : IV W n A c l z :=
  .of h.cap h.ws h.can h.val hlt
theorem IntAt.box {W : World} {p : Nat} {n : Bool} {A : Option Addr} {c : Nat} {l : List Nat} {z : Int} (h : Box2 W p (.bool n) (.slice A l.length c)) (k : IV W n A c l z) : IntAt W p n A c l z :=
  ⟨h.cell0, h.cell1, k.cap, k.ws, k.can, k.val⟩
section
variable {w : World} {n m : Bool} {A B : Option Addr} {c d : Nat} {l k : List Nat} {x y z : Int}
theorem Add_ow (h : IV w n A c l x) (h2 : IV w m B d k y) (hz : x + y = z) :
    Calls Tryz.prog 18 #[.agg #[.bool n, .slice A l.length c], .agg #[.bool m, .slice B k.length d]] w (IRes w z) := by
  have e1 := h.len
  have e2 := h2.len
  have r := Add_any w w n m A B l.length c k.length d l k true true rfl rfl (by omega) (by omega) h.ws h2.ws h.can h2.can (b0 _)
  rwa [show ite0 (true && true) (zI n l + zI m k) = z from by rw [h.val, h2.val]; exact hz] at r
theorem Mul_ow (h : IV w n A c l x) (h2 : IV w m B d k y) (hz : x * y = z) :
    Calls Tryz.prog 22 #[.agg #[.bool n, .slice A l.length c], .agg #[.bool m, .slice B k.length d]] w (IRes w z) := by
  have e1 := h.len
  have e2 := h2.len
  have r := Mul_all w w n m A B l.length c k.length d l k true true rfl rfl (by omega) (by omega) h.cap h2.cap h.ws h2.ws h.can h2.can (b0 _)
  rwa [show ite0 (true && true) (zI n l * zI m k) = z from by rw [h.val, h2.val]; exact hz] at r
end
end Go.Proofs.YtgljdfblgpdaaaaGreatDoor
