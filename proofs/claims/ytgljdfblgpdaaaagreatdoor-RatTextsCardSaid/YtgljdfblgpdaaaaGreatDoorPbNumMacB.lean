import Derived.Lib.SmallJoins
import Derived.ProofKit
import Derived.OpenShut
import Derived.Deep.DeepHandedRow
import Derived.Lib.LaidTab
import Derived.Test.YtgljdfblgpdaaaaGreatDoorPbNumPow
import Derived.Test.YtgljdfblgpdaaaaGreatDoorPbNumParse
import Derived.Test.YtgljdfblgpdaaaaGreatDoorPbNumProd
set_option linter.unusedSimpArgs false
set_option linter.unusedVariables false
set_option maxRecDepth 100000
set_option maxHeartbeats 4000000
namespace Go.Proofs.YtgljdfblgpdaaaaGreatDoor
open Go.RowKit
variable {n1 n2 : Bool}
theorem canon_eq {l1 l2 : List Nat} (w1 : ∀ x ∈ l1, x < 4294967296) (w2 : ∀ x ∈ l2, x < 4294967296) (h1 : isB n1 l1 = true) (h2 : isB n2 l2 = true) (h : zI n1 l1 = zI n2 l2) : n1 = n2 ∧ l1 = l2 := by
 have e := same_iff w1 w2 h1 h2
 rw [decide_eq_true h, Bool.and_eq_true, beq_iff_eq, decide_eq_true_eq] at e
 exact e
open Go.RowKit
variable {n1 n2 : Bool}
theorem box4 {W : World} {p q : Nat} {u v x y : Value} (h : Box2 W p u v) (k : Box2 W q x y) : W.cell? ⟨p, 0, none⟩ = some u ∧ W.cell? ⟨p, 1, none⟩ = some v ∧ W.cell? ⟨q, 0, none⟩ = some x ∧ W.cell? ⟨q, 1, none⟩ = some y :=
 ⟨h.cell0, h.cell1, k.cell0, k.cell1⟩
theorem same_of {w : World} {z : Int} {A B : Option Addr} {c d : Nat} {l k : List Nat} (hl : WS w A l) (hk : WS w B k) (h1 : isB n1 l = true) (h2 : isB n2 k = true) (e1 : zI n1 l = z) (e2 : zI n2 k = z) (hm : l.length ≤ 4000000) (hm2 : k.length ≤ 4000000) :
  Calls Tryz.prog 17 #[.agg #[.bool n1, .slice A l.length c], .agg #[.bool n2, .slice B k.length d]] w fun e w' => e = .returned (.bool true) ∧ Below w.heap.size w w' := by
 have h := RSame_any n1 n2 A B l.length c k.length d l k w rfl rfl hm hm2 hl hk
 rw [same_iff hl.1 hk.1 h1 h2, e1, e2, decide_eq_true rfl] at h
 exact h
open Go.ChangeShapes Go.WideShapes Go.ChangeAt Go.RowKit Go.Joins
variable {n1 n2 : Bool}
section
variable {H : Type} {enc : TypeId × Value → H} {P : Program}
end
theorem cellsInt : Tryz.prog.cellsOf 24 = 2 := by kernel_rfl
theorem cellsW : Tryz.prog.cellsOf 83 = 1 := by kernel_rfl
theorem wf_u32 {n : Int} (h : (Lit.int .u32 n).wf = true) : 0 ≤ n ∧ n < 4294967296 := by
 simp [Lit.wf, IntKind.min, IntKind.max, IntKind.signed, IntKind.bits] at h
 omega
set_option maxRecDepth 100000
def Stays {H : Type} (enc : TypeId × Value → H) (W : World) (t : TypeId) (v : Value) (d : DataW H) (ps : List MemPlace) : Prop :=
 ∀ W', Below W.heap.size W W' → ∀ sp : Nat → Bool, (∀ p ∈ ps, sp p.block = true) → DataW.Trod enc Tryz.prog W' 0 sp true t v d ps
theorem own : ownKnob Tryz.prog.godebug = none := by kernel_rfl
open Go.RowKit
theorem val_abs {n : Bool} {l : List Nat} {x : Int} (h : zI n l = x) : val l = x.natAbs := by rw [← h]; unfold zI; split <;> simp
open Go.RowKit
variable {W W' : World} {i j p q : Nat} {u v : Value}
def Lt (i : Nat) (z : Int) : Prop := z.natAbs < BB i
theorem lt_le {z : Int} (h : Lt i z) (hij : i ≤ j) : Lt j z := Nat.lt_of_lt_of_le h (BB_mono hij)
theorem lt_neg {z : Int} (h : Lt i z) : Lt i (-z) := by unfold Lt at *; rwa [Int.natAbs_neg]
theorem lt_mul {x y : Int} (h : Lt i x) (k : Lt j y) : Lt (i + j) (x * y) := by
 unfold Lt at *
 rw [Int.natAbs_mul, BB_add]
 exact Nat.mul_lt_mul'' h k
theorem lt_add {x y : Int} (h : Lt i x) (k : Lt j y) : Lt (i + j + 1) (x + y) := by
 unfold Lt at *
 have h1 := Int.natAbs_add_le x y
 have h2 := BB_mono (show i ≤ i + j by omega)
 have h3 := BB_mono (show j ≤ i + j by omega)
 have h4 := BB_succ (i + j)
 have h5 := BB_pos (i + j)
 omega
theorem lt_sub {x y : Int} (h : Lt i x) (k : Lt j y) : Lt (i + j + 1) (x - y) := by
 rw [Int.sub_eq_add_neg]; exact lt_add h (lt_neg k)
theorem lt_one {z : Int} (h : z.natAbs < 4294967296) : Lt 1 z := h
theorem lt_val {A : Option Addr} {n : Bool} {l : List Nat} (h : WS W A l) {z : Int} (hz : zI n l = z) : Lt l.length z := by
 have e : val l = z.natAbs := by rw [← hz]; unfold zI; split <;> simp
 unfold Lt
 rw [← e]
 exact val_lt h.1
structure IV (W : World) (n : Bool) (A : Option Addr) (c : Nat) (l : List Nat) (z : Int) : Prop where
 cap : l.length ≤ c
 ws : WS W A l
 can : isB n l = true
 val : zI n l = z
 len : l.length ≤ 2100
theorem IV.below {n : Bool} {A : Option Addr} {c : Nat} {l : List Nat} {z : Int} (h : IV W n A c l z) (hb : Below W.heap.size W W') : IV W' n A c l z :=
 ⟨h.cap, h.ws.below hb, h.can, h.val, h.len⟩
theorem IV.of {n : Bool} {A : Option Addr} {c : Nat} {l : List Nat} {z : Int} (hc : l.length ≤ c) (hw : WS W A l) (hB : isB n l = true) (hz : zI n l = z) (hlt : Lt 2100 z) : IV W n A c l z := by
 refine ⟨hc, hw, hB, hz, top_len (isB_top hB) ?_⟩
 have e : Go.Proofs.YtgljdfblgpdaaaaGreatDoor.val l = z.natAbs := by rw [← hz]; unfold zI; split <;> simp
 rw [e]
 exact hlt
def RIV (w : World) (z : Int) (e : Ending) (w' : World) : Prop :=
 ∃ n A c l, e = .returned (.agg #[.bool n, .slice A l.length c]) ∧ IV w' n A c l z ∧ Below w.heap.size w w'
theorem IRes.iv {w : World} {x z : Int} {e : Ending} {w' : World} (h : IRes w x e w') (hx : x = z) (hlt : Lt 2100 z) : RIV w z e w' := by
 obtain ⟨n, A, c, l, he, hc, hw, hB, hz, hb⟩ := h
 exact ⟨n, A, c, l, he, .of hc hw.ws hB (hz.trans hx) hlt, hb⟩
theorem sgn_eq {n : Bool} {l : List Nat} (hB : isB n l = true) : sgn true n l = cmpI (zI n l) 0 := by
 have h0 := val_eq_zero (isB_top hB)
 unfold sgn cmpI zI
 by_cases hl : l.length = 0
 ·have hl' : l = [] := List.eq_nil_of_length_eq_zero hl
  subst hl'
  cases n <;> simp [val]
 ·have hv : 0 < val l := by
   rcases Nat.eq_zero_or_pos (val l) with h | h
   ·rw [h0.1 h] at hl; exact absurd rfl hl
   ·exact h
  cases n
  ·rw [if_neg (by simp [hl]), if_neg (by simp), if_neg (by simp), if_neg (by simp; omega)]
  ·rw [if_neg (by simp [hl]), if_pos rfl, if_pos rfl, if_pos (by omega)]
section
variable {w : World} {n m : Bool} {A B : Option Addr} {c d : Nat} {l k : List Nat} {x y z : Int}
theorem Add_iv (h : IV w n A c l x) (h2 : IV w m B d k y) (hz : x + y = z) (hlt : Lt 2100 z) :
  Calls Tryz.prog 18 #[.agg #[.bool n, .slice A l.length c], .agg #[.bool m, .slice B k.length d]] w (RIV w z) := by
 have e1 := h.len
 have e2 := h2.len
 refine (Add_any w w n m A B l.length c k.length d l k true true rfl rfl (by omega) (by omega) h.ws h2.ws h.can h2.can (b0 _)).mono fun e w' hr => hr.iv ?_ hlt
 rw [h.val, h2.val]; exact hz
theorem Sub_iv (h : IV w n A c l x) (h2 : IV w m B d k y) (hz : x - y = z) (hlt : Lt 2100 z) :
  Calls Tryz.prog 20 #[.agg #[.bool n, .slice A l.length c], .agg #[.bool m, .slice B k.length d]] w (RIV w z) := by
 have e1 := h.len
 have e2 := h2.len
 refine (Sub_any w w n m A B l.length c k.length d l k true true rfl rfl (by omega) (by omega) h.ws h2.ws h.can h2.can (b0 _)).mono fun e w' hr => hr.iv ?_ hlt
 rw [h.val, h2.val]; exact hz
theorem Mul_iv (h : IV w n A c l x) (h2 : IV w m B d k y) (hz : x * y = z) (hlt : Lt 2100 z) :
  Calls Tryz.prog 22 #[.agg #[.bool n, .slice A l.length c], .agg #[.bool m, .slice B k.length d]] w (RIV w z) := by
 have e1 := h.len
 have e2 := h2.len
 refine (Mul_all w w n m A B l.length c k.length d l k true true rfl rfl (by omega) (by omega) h.cap h2.cap h.ws h2.ws h.can h2.can (b0 _)).mono fun e w' hr => hr.iv ?_ hlt
 rw [h.val, h2.val]; exact hz
theorem Neg_iv (h : IV w n A c l x) (hz : -x = z) (hlt : Lt 2100 z) :
  Calls Tryz.prog 82 #[.agg #[.bool n, .slice A l.length c]] w (RIV w z) := by
 have e1 := h.len
 refine (Neg_any w w n A l.length c l true rfl (by omega) h.ws h.can (b0 _)).mono fun e w' hr => hr.iv ?_ hlt
 rw [h.val]; exact hz
theorem Of_iv (w : World) (x : Int) (h1 : -4294967296 < x) (h2 : x < 4294967296) :
  Calls Tryz.prog 77 #[.int .i64 x] w (RIV w x) :=
 (Of_any w w x (by omega) (by omega) (b0 _)).mono fun e w' hr => hr.iv rfl (lt_le (lt_one (by omega)) (by decide))
theorem Same_iv (h : IV w n A c l x) (h2 : IV w m B d k x) :
  Calls Tryz.prog 17 #[.agg #[.bool n, .slice A l.length c], .agg #[.bool m, .slice B k.length d]] w fun e w' => e = .returned (.bool true) ∧ Below w.heap.size w w' := by
 have e1 := h.len
 have e2 := h2.len
 exact same_of h.ws h2.ws h.can h2.can h.val h2.val (by omega) (by omega)
theorem Cmp_iv (h : IV w n A c l x) (h2 : IV w m B d k y) {v : Int} (hv : cmpI x y = v) :
  Calls Tryz.prog 80 #[.agg #[.bool n, .slice A l.length c], .agg #[.bool m, .slice B k.length d]] w fun e w' => e = .returned (.int .i64 v) ∧ Below w.heap.size w w' := by
 have e1 := h.len
 have e2 := h2.len
 have r := Cmp_any n m A B l.length c k.length d l k true true w rfl rfl (by omega) (by omega) h.ws h2.ws h.can h2.can
 rwa [if_pos (show (true && true) = true from rfl), h.val, h2.val, hv] at r
theorem Sign_iv (h : IV w n A c l x) {v : Int} (hv : cmpI x 0 = v) :
  Calls Tryz.prog 79 #[.agg #[.bool n, .slice A l.length c]] w fun e w' => e = .returned (.int .i64 v) ∧ Below w.heap.size w w' := by
 have e1 := h.len
 have r := Sign_any n A l.length c l true w rfl (by omega) h.ws h.can
 rwa [sgn_eq h.can, h.val, hv] at r
end
open Go.RowKit
variable {W W' : World} {i j p q : Nat} {u v : Value}
structure IntAt (W : World) (p : Nat) (n : Bool) (A : Option Addr) (c : Nat) (l : List Nat) (z : Int) : Prop where
 c0 : W.cell? ⟨p, 0, none⟩ = some (.bool n)
 c1 : W.cell? ⟨p, 1, none⟩ = some (.slice A l.length c)
 cap : l.length ≤ c
 ws : WS W A l
 can : isB n l = true
 val : zI n l = z
theorem cell_below {a : Addr} (h : W.cell? a = some v) (hb : Below W.heap.size W W') : W'.cell? a = some v :=
 (World.cell?_of_block (hb.block _ (World.block_lt_of_cell? W a h))).trans h
theorem IntAt.below {n : Bool} {A : Option Addr} {c : Nat} {l : List Nat} {z : Int} (h : IntAt W p n A c l z) (hb : Below W.heap.size W W') : IntAt W' p n A c l z :=
 ⟨cell_below h.c0 hb, cell_below h.c1 hb, h.cap, h.ws.below hb, h.can, h.val⟩
theorem IntAt.new {n : Bool} {A : Option Addr} {c : Nat} {l : List Nat} {z : Int} (hc : l.length ≤ c) (hw : WS W A l) (hB : isB n l = true) (hz : zI n l = z) :
  IntAt (W.alloc (.cells #[.bool n, .slice A l.length c] 24)) W.heap.size n A c l z :=
 ⟨(Box2.new W _ _).cell0, (Box2.new W _ _).cell1, hc, hw.below (ba (b0 _) _), hB, hz⟩
theorem IntAt.store {n : Bool} {A : Option Addr} {c : Nat} {l : List Nat} {z : Int} (hb : Box2 W p u v) (hc : l.length ≤ c) (hw : WS W A l) (ho : Off A l p) (hB : isB n l = true) (hz : zI n l = z) :
  IntAt ((W.setCell ⟨p, 0, none⟩ (.bool n)).setCell ⟨p, 1, none⟩ (.slice A l.length c)) p n A c l z :=
 ⟨((hb.set0 _).set1 _).cell0, ((hb.set0 _).set1 _).cell1, hc, hw.two ho _ _, hB, hz⟩
theorem IntAt.new' {n : Bool} {A : Option Addr} {c : Nat} {l : List Nat} {z : Int} (hc : l.length ≤ c) (hB : isB n l = true) (hz : zI n l = z) (hw : WS W A l) (hp : W.heap.size = p) :
  IntAt (W.alloc (.cells #[.bool n, .slice A l.length c] 24)) p n A c l z := hp ▸ IntAt.new hc hw hB hz
theorem Box2.new' (hp : W.heap.size = p) : Box2 (W.alloc (.cells #[u, v] 24)) p u v := hp ▸ Box2.new W u v
theorem Box2.drew' (h : Box2 W p u v) : Box2 W.drew p u v := h
theorem IntAt.alloc {n : Bool} {A : Option Addr} {c : Nat} {l : List Nat} {z : Int} (h : IntAt W p n A c l z) (o : Obj) : IntAt (W.alloc o) p n A c l z := h.below (ba (b0 _) _)
theorem IntAt.far {n : Bool} {A : Option Addr} {c : Nat} {l : List Nat} {z : Int} (h : IntAt W p n A c l z) (hne : p ≠ q) (ho : Off A l q) (x y : Value) : IntAt ((W.setCell ⟨q, 0, none⟩ x).setCell ⟨q, 1, none⟩ y) p n A c l z := by
 have key : ∀ o, ((W.setCell ⟨q, 0, none⟩ x).setCell ⟨q, 1, none⟩ y).cell? ⟨p, o, none⟩ = W.cell? ⟨p, o, none⟩ := fun o =>
  World.cell?_of_block ((Below.heap_setCell _ _ _ _ (by show p ≠ q; exact hne)).trans (Below.heap_setCell _ _ _ _ (by show p ≠ q; exact hne)))
 exact ⟨(key 0).trans h.c0, (key 1).trans h.c1, h.cap, h.ws.two ho _ _, h.can, h.val⟩
theorem Box2.far (h : Box2 W p u v) (hne : p ≠ q) (x y : Value) : Box2 ((W.setCell ⟨q, 0, none⟩ x).setCell ⟨q, 1, none⟩ y) p u v := box2_far h hne x y
theorem IntAt.iv {n : Bool} {A : Option Addr} {c : Nat} {l : List Nat} {z : Int} (h : IntAt W p n A c l z) (hlt : Lt 2100 z) : IV W n A c l z :=
 .of h.cap h.ws h.can h.val hlt
section
variable {w : World} {n m : Bool} {A B : Option Addr} {c d : Nat} {l k : List Nat} {x y z : Int}
end
open Go Go.RowKit
theorem Box2.hc {w : World} {p : Nat} {u v : Value} (h : Box2 w p u v) : Hid (∀ W, Below w.heap.size w W → W.cell? ⟨p, 0, none⟩ = some u ∧ W.cell? ⟨p, 1, none⟩ = some v) := Hi fun _ hb => (h.below hb).cs
theorem hd2 (w : World) (uu0 uu1 : Value) : ∃ W, W = w.alloc (.cells #[uu0, uu1] 24) ∧ Below w.heap.size w W ∧ Box2 W (w.heap.size) uu0 uu1 := by
 refine ⟨_, rfl, ba (b0 _) _, ?_⟩
 ·have h := Box2.new w uu0 uu1
  exact h
theorem hd22 (w : World) (uu0 uu1 vv0 vv1 : Value) : ∃ W, W = (w.alloc (.cells #[uu0, uu1] 24)).alloc (.cells #[vv0, vv1] 24) ∧ Below w.heap.size w W ∧ Box2 W (w.heap.size) uu0 uu1 ∧ Box2 W (w.heap.size + 1) vv0 vv1 := by
 refine ⟨_, rfl, ba (ba (b0 _) _) _, ?_, ?_⟩
 ·have h := Box2.new w uu0 uu1
  exact (h.alloc _)
 ·have h := Box2.new (w.alloc (.cells #[uu0, uu1] 24)) vv0 vv1
  rw [World.size_alloc] at h
  exact h
theorem IV.b {W W' : World} {n : Bool} {A : Option Addr} {c : Nat} {l : List Nat} {z : Int} (h : IV W n A c l z) (hb : Below W.heap.size W W' := by (first | exact b0 _ | (repeat (first | exact Hid.out (by assumption) | refine bt (Hid.out (by assumption)) ?_)))) : IV W' n A c l z := h.below hb
theorem hdII (w : World) (n : Bool) (A : Option Addr) (c : Nat) (l : List Nat) (m : Bool) (B : Option Addr) (d : Nat) (k : List Nat) : ∃ W, W = (w.alloc (.cells #[.bool n, .slice A l.length c] 24)).alloc (.cells #[.bool m, .slice B k.length d] 24) ∧ Below w.heap.size w W ∧ Box2 W (w.heap.size) (.bool n) (.slice A l.length c) ∧ Box2 W (w.heap.size + 1) (.bool m) (.slice B k.length d) := hd22 w (.bool n) (.slice A l.length c) (.bool m) (.slice B k.length d)
theorem hdi (w : World)  : ∃ W, W = w.alloc (.cells #[.bool false, .slice none 0 0] 24) ∧ Below w.heap.size w W ∧ Box2 W (w.heap.size) (.bool false) (.slice none 0 0) := hd2 w (.bool false) (.slice none 0 0)
end Go.Proofs.YtgljdfblgpdaaaaGreatDoor
