import Derived.WalkKit
import Derived.WalkSpells
import Derived.WalkLawsBesides
import Derived.BigQuiet
import Derived.Deep.QuietTactic
import Derived.Handy
import Derived.Laws.CopyOwn
import Derived.Laws.MakeOwn
import Derived.Deep.Draws
import Derived.Laws.Rows
import Derived.Test.YtgljdfblgpdaaaaGreatDoorPbNumReg
set_option linter.unusedSimpArgs false
set_option linter.unusedVariables false
set_option maxRecDepth 100000
set_option maxHeartbeats 4000000
namespace Go.Proofs.YtgljdfblgpdaaaaGreatDoor
open Go.RowKit
variable {A : Option Addr} {L S l : List Nat} {W W' a w w' : World} {g g' i j k m n o p x : Nat} {neg : Bool} {u v : Value}
def gd (l : List Nat) (j : Nat) : Nat := l.getD j 0
theorem gd_at (h : j < l.length) : gd l j = l[j] := by simp [gd, List.getD_eq_getElem?_getD, List.getElem?_eq_getElem h]
theorem gd_end (h : l.length ≤ j) : gd l j = 0 := by simp [gd, List.getD_eq_getElem?_getD, List.getElem?_eq_none h]
def WS (w : World) (A : Option Addr) (l : List Nat) : Prop :=
 (∀ x ∈ l, x < 4294967296) ∧ (l ≠ [] → ∃ b off, A = some ⟨b, off, none⟩ ∧ b < w.heap.size ∧
  ∀ j, j < l.length → w.cell? ⟨b, off + j, none⟩ = some (.int .u32 ((gd l j : Nat) : Int)))
theorem WS.below (h : WS w A l) (hb : Below w.heap.size w w') : WS w' A l :=
 ⟨h.1, fun hl => by
  obtain ⟨b, off, e, hlt, hc⟩ := h.2 hl
  exact ⟨b, off, e, Nat.lt_of_lt_of_le hlt hb.size, fun j hj => (hb.cell (p := ⟨b, off + j, none⟩) hlt).trans (hc j hj)⟩⟩
theorem WS.at_ (h : WS w A l) (hj : 0 < l.length) :
  ∃ b off, A = some ⟨b, off, none⟩ ∧ b < w.heap.size ∧ ∀ j, j < l.length → w.cell? ⟨b, off + j, none⟩ = some (.int .u32 ((gd l j : Nat) : Int)) :=
 h.2 (by rintro rfl; simp at hj)
theorem WS.nil_ (w : World) (A : Option Addr) : WS w A [] := ⟨by simp, fun h => absurd rfl h⟩
theorem getD_lt (h : ∀ x ∈ l, x < 4294967296) (j : Nat) : gd l j < 4294967296 := by
 unfold gd
 rw [List.getD_eq_getElem?_getD]
 rcases Nat.lt_or_ge j l.length with hj | hj
 ·rw [List.getElem?_eq_getElem hj]; exact h _ (List.getElem_mem hj)
 ·rw [List.getElem?_eq_none hj]; decide
theorem WS.lt (h : WS w A l) (j : Nat) : gd l j < 4294967296 := getD_lt h.1 j
def isB (neg : Bool) (l : List Nat) : Bool := if l.length = 0 then !neg else (((gd l (l.length - 1) : Nat) : Int) != 0)
theorem ret_bool {a b : Bool} (h : a = b) : Ending.returned (.bool a) = .returned (.bool b) := by rw [h]
theorem ret_int {k : IntKind} {a b : Int} (h : a = b) : Ending.returned (.int k a) = .returned (.int k b) := by rw [h]
theorem bcell {W w1 : World} (hb : Below W.heap.size W w1) : (∀ b o, b < W.heap.size → w1.cell? ⟨b, o, none⟩ = W.cell? ⟨b, o, none⟩) ∧ (∀ b o, b < W.heap.size → w1.frozen? ⟨b, o, none⟩ = W.frozen? ⟨b, o, none⟩) :=
 ⟨fun b o h => hb.cell (p := ⟨b, o, none⟩) h, fun b o h => hb.frozen (p := ⟨b, o, none⟩) h⟩
theorem b0 (a : World) : Below a.heap.size a a := Below.refl _ _
theorem Hi {p : Prop} (h : p) : RowKit.Hid p := h
theorem ba (h : Below a.heap.size a w) (o : Obj) : Below a.heap.size a (w.alloc o) := h.alloc h.size o
theorem bt (h : Below a.heap.size a w) (k : Below w.heap.size w w') : Below a.heap.size a w' := h.trans (k.mono h.size)
theorem bs (h : Below a.heap.size a w) {p : Addr} (hp : a.heap.size ≤ p.block) (u : Value) : Below a.heap.size a (w.setCell p u) := h.setCell hp u
theorem bd (h : Below a.heap.size a w) (n : Nat) : Below a.heap.size a (w.drewN n) := ⟨h.os, h.tape, h.output, h.size, h.block⟩
theorem bw (h : Below a.heap.size a w) : Below a.heap.size a w.drew := h.drew
def words (L : List Nat) : Array Value := (L.map fun (x : Nat) => Value.int .u32 (x : Int)).toArray
def Blk (w : World) (g : Nat) (L : List Nat) : Prop := (∀ x ∈ L, x < 4294967296) ∧ w.heap[g]? = some (.cells (words L) 83 (0, 0))
def Only (g : Nat) (w w' : World) : Prop := w.grownBy w' (some g)
theorem Blk.lt (h : Blk w g L) : g < w.heap.size := by
 rcases Nat.lt_or_ge g w.heap.size with hlt | hge
 ·exact hlt
 ·have := h.2; rw [Array.getElem?_eq_none hge] at this; cases this
theorem Blk.cell (h : Blk w g L) (hi : i < L.length) : w.cell? ⟨g, i, none⟩ = some (.int .u32 ((gd L i : Nat) : Int)) := by
 rw [cell_of_row w g i _ _ (0, 0) h.2]
 simp [words, gd, List.getD_eq_getElem?_getD, List.getElem?_eq_getElem hi]
theorem Blk.free (h : Blk w g L) (i : Nat) : w.frozen? ⟨g, i, none⟩ = false := by
 have := h.2
 simp [World.frozen?, this]
theorem Blk.set_ (h : Blk w g L) (hx : x < 4294967296) : Blk (w.setCell ⟨g, i, none⟩ (.int .u32 (x : Int))) g (L.set i x) := by
 refine ⟨fun y hy => ?_, ?_⟩
 ·rcases List.mem_or_eq_of_mem_set hy with h1 | h1
  ·exact h.1 y h1
  ·rw [h1]; exact hx
 ·have := h.2
  simp [World.setCell, Array.getElem?_modify, this, words, List.map_set]
theorem Blk.draw (h : Blk w g L) (n : Nat) : Blk (w.drewN n) g L := h
theorem Blk.below (h : Blk w g L) (hb : Below w.heap.size w w') : Blk w' g L := ⟨h.1, (hb.block g h.lt).trans h.2⟩
theorem Blk.only (h : Blk w g L) (hb : Only g' w w') (hne : g ≠ g') : Blk w' g L := ⟨h.1, (hb.block g h.lt (fun e => hne (by injection e))).trans h.2⟩
theorem Blk.ws (h : Blk w g L) (hn : o + n ≤ L.length) : WS w (some ⟨g, o, none⟩) ((L.drop o).take n) := by
 refine ⟨fun x hx => h.1 x (List.mem_of_mem_drop (List.mem_of_mem_take hx)), fun _ => ⟨g, o, rfl, h.lt, fun j hj => ?_⟩⟩
 have hj' : j < n := by simp at hj; omega
 rw [h.cell (by omega)]
 simp [gd, List.getD_eq_getElem?_getD, hj', List.getElem?_drop]
theorem only_refl (g : Nat) (w : World) : Only g w w := ⟨rfl, rfl, rfl, Nat.le_refl _, fun _ _ _ => rfl⟩
theorem Only.below (h : Only g a w) (k : Below w.heap.size w w') : Only g a w' :=
 ⟨k.os.trans h.os, k.tape.trans h.tape, k.output.trans h.output, Nat.le_trans h.size k.size, fun i hi hn => (k.block i (Nat.lt_of_lt_of_le hi h.size)).trans (h.block i hi hn)⟩
theorem Only.trans (h : Only g a w) (k : Only g w w') : Only g a w' :=
 ⟨k.os.trans h.os, k.tape.trans h.tape, k.output.trans h.output, Nat.le_trans h.size k.size, fun i hi hn => (k.block i (Nat.lt_of_lt_of_le hi h.size) hn).trans (h.block i hi hn)⟩
theorem Only.fresh (h : Only g a w) (k : Only g' w w') (hg : a.heap.size ≤ g') : Only g a w' :=
 ⟨k.os.trans h.os, k.tape.trans h.tape, k.output.trans h.output, Nat.le_trans h.size k.size, fun i hi hn => (k.block i (Nat.lt_of_lt_of_le hi h.size) (fun e => by injection e; omega)).trans (h.block i hi hn)⟩
theorem Only.draw (h : Only g a w) (n : Nat) : Only g a (w.drewN n) := ⟨h.os, h.tape, h.output, h.size, h.block⟩
theorem Only.alloc (h : Only g a w) (o : Obj) : Only g a (w.alloc o) := h.below (ba (b0 _) _)
theorem Only.set_ (h : Only g a w) {p : Addr} (hp : p.block = g ∨ a.heap.size ≤ p.block) (u : Value) : Only g a (w.setCell p u) :=
 ⟨h.os, h.tape, h.output, by simpa [World.setCell] using h.size, fun i hi hne => (Below.heap_setCell w p u i (by
  rintro rfl
  rcases hp with hp | hp
  ·exact hne (by rw [hp])
  ·omega)).trans (h.block i hi hne)⟩
theorem bo (h : Below a.heap.size a w) (k : Only g w w') (hg : a.heap.size ≤ g) : Below a.heap.size a w' :=
 h.trans ⟨k.os, k.tape, k.output, k.size, fun i hi => k.block i (Nat.lt_of_lt_of_le hi h.size) (fun e => by injection e; omega)⟩
theorem Only.mono (h : Below a.heap.size a w) : Only g a w := ⟨h.os, h.tape, h.output, h.size, fun i hi _ => h.block i hi⟩
def Off (A : Option Addr) (l : List Nat) (g : Nat) : Prop := l ≠ [] → ∀ b o, A = some ⟨b, o, none⟩ → b ≠ g
theorem WS.only (h : WS w A l) (hb : Only g w w') (ho : Off A l g) : WS w' A l :=
 ⟨h.1, fun hl => by
  obtain ⟨b, off, e, hlt, hc⟩ := h.2 hl
  refine ⟨b, off, e, Nat.lt_of_lt_of_le hlt hb.size, fun j hj => ?_⟩
  rw [← hc j hj]
  exact World.cell?_of_block (hb.block b hlt (fun q => ho hl b off e (by injection q)))⟩
theorem WS.off (h : WS w A l) (hg : w.heap.size ≤ g) : Off A l g := by
 rintro hl b o rfl rfl
 obtain ⟨b', off, e, hlt, _⟩ := h.2 hl
 injection e with e
 injection e with e1 e2
 omega
theorem WS.off' (h : WS w A l) (hg : w.heap.size ≤ g) (k : Nat) : Off A l (g + k) := h.off (by omega)
def val : List Nat → Nat
 | [] => 0
 | x :: r => x + 4294967296 * val r
def BB (n : Nat) : Nat := 4294967296 ^ n
theorem BB_succ (n : Nat) : BB (n + 1) = BB n * 4294967296 := Nat.pow_succ ..
theorem BB_pos (n : Nat) : 0 < BB n := Nat.pow_pos (by decide)
theorem BB_zero : BB 0 = 1 := rfl
theorem BB_add (m n : Nat) : BB (m + n) = BB m * BB n := Nat.pow_add _ _ _
theorem val_append (a b : List Nat) : val (a ++ b) = val a + BB a.length * val b := by
 induction a with
 | nil => simp [val, BB]
 | cons x r ih =>
  simp only [List.cons_append, val, ih, List.length_cons, BB_succ]
  rw [Nat.mul_add, Nat.mul_comm (BB r.length) 4294967296, Nat.mul_assoc]
  omega
theorem val_snoc (a : List Nat) (x : Nat) : val (a ++ [x]) = val a + BB a.length * x := by
 rw [val_append]; simp [val]
theorem val_lt {a : List Nat} (h : ∀ x ∈ a, x < 4294967296) : val a < BB a.length := by
 induction a with
 | nil => simp [val, BB]
 | cons x r ih =>
  have h1 := ih (fun y hy => h y (List.mem_cons_of_mem _ hy))
  have h2 := h x List.mem_cons_self
  simp only [val, List.length_cons, BB_succ]
  have h3 : val r + 1 ≤ BB r.length := h1
  have := Nat.mul_le_mul_right 4294967296 h3
  omega
theorem take_snoc (l : List Nat) (h : k < l.length) : l.take (k + 1) = l.take k ++ [gd l k] := by
 rw [List.take_succ_eq_append_getElem h]
 simp [gd, List.getD_eq_getElem?_getD, List.getElem?_eq_getElem h]
theorem val_take (l : List Nat) (h : k < l.length) : val (l.take (k + 1)) = val (l.take k) + BB k * gd l k := by
 rw [take_snoc l h, val_snoc, List.length_take, Nat.min_eq_left (by omega)]
theorem words_snoc (h : ∀ y ∈ S, y < 4294967296) (hx : x < 4294967296) : ∀ y ∈ S ++ [x], y < 4294967296 := by
 intro y hy
 rcases List.mem_append.1 hy with h1 | h1
 ·exact h y h1
 ·rw [List.mem_singleton.1 h1]; exact hx
def spl (L : List Nat) (o : Nat) (S : List Nat) : List Nat := L.take o ++ S ++ L.drop (o + S.length)
theorem spl_nil (L : List Nat) (o : Nat) : spl L o [] = L := by simp [spl]
theorem spl_length (h : o + S.length ≤ L.length) : (spl L o S).length = L.length := by
 simp only [spl, List.length_append, List.length_take, List.length_drop]; omega
theorem spl_set (x : Nat) (h : o + S.length < L.length) : (spl L o S).set (o + S.length) x = spl L o (S ++ [x]) := by
 have h1 : L.drop (o + S.length) = gd L (o + S.length) :: L.drop (o + S.length + 1) := by
  rw [List.drop_eq_getElem_cons h]; simp [gd, List.getD_eq_getElem?_getD, List.getElem?_eq_getElem h]
 simp only [spl, List.length_append, List.length_cons, List.length_nil, h1]
 rw [List.set_append_right _ _ (by simp; omega)]
 have h2 : o + S.length - (L.take o ++ S).length = 0 := by simp; omega
 rw [h2]
 simp [Nat.add_assoc]
theorem spl_get (h : o + S.length ≤ j) (hL : o + S.length ≤ L.length) : gd (spl L o S) j = gd L j := by
 simp only [gd, spl, List.getD_eq_getElem?_getD]
 rw [List.getElem?_append_right (by simp; omega)]
 simp only [List.length_append, List.length_take, List.getElem?_drop]
 congr 2
 omega
def seg (L : List Nat) (o n : Nat) : List Nat := (L.drop o).take n
theorem seg_length (h : o + n ≤ L.length) : (seg L o n).length = n := by simp [seg]; omega
theorem seg_spl (h : o + S.length ≤ L.length) : seg (spl L o S) o S.length = S := by
 simp only [seg, spl, List.append_assoc]
 rw [List.drop_append_of_le_length (by simp; omega), List.drop_eq_nil_of_le (by simp; omega)]
 simp
theorem val_seg_succ (L : List Nat) (o : Nat) (h : o + k < L.length) : val (seg L o (k + 1)) = val (seg L o k) + BB k * gd L (o + k) := by
 unfold seg
 rw [val_take _ (by simp; omega)]
 simp [gd, List.getD_eq_getElem?_getD, List.getElem?_drop]
theorem seg_zero (L : List Nat) (o : Nat) : seg L o 0 = [] := by simp [seg]
def Top (l : List Nat) : Prop := 0 < l.length → gd l (l.length - 1) ≠ 0
def OwnS (a w' : World) (A : Option Addr) (l : List Nat) : Prop :=
 l ≠ [] → ∃ g L, A = some ⟨g, 0, none⟩ ∧ a.heap.size ≤ g ∧ Blk w' g L ∧ L.take l.length = l ∧ l.length ≤ L.length
def Res (a : World) (N : Nat) (e : Ending) (w' : World) : Prop :=
 ∃ A c l, e = .returned (.slice A l.length c) ∧ l.length ≤ c ∧ OwnS a w' A l ∧ Top l ∧ val l = N ∧ Below a.heap.size a w'
theorem gd_take (h : j < k) : gd (l.take k) j = gd l j := by
 simp [gd, List.getD_eq_getElem?_getD, List.getElem?_take, h]
theorem gd_drop (l : List Nat) (k j : Nat) : gd (l.drop k) j = gd l (k + j) := by
 simp [gd, List.getD_eq_getElem?_getD, List.getElem?_drop]
theorem val_zero_of : ∀ (l : List Nat), (∀ j, gd l j = 0) → val l = 0
 | [], _ => rfl
 | x :: r, h => by
  have h0 : x = 0 := h 0
  have h1 := val_zero_of r (fun j => h (j + 1))
  simp [val, h0, h1]
theorem val_take_top (l : List Nat) (k : Nat) (h : ∀ j, k ≤ j → gd l j = 0) : val (l.take k) = val l := by
 have h1 := val_append (l.take k) (l.drop k)
 rw [List.take_append_drop, val_zero_of (l.drop k) (fun j => by rw [gd_drop]; exact h _ (by omega)), Nat.mul_zero, Nat.add_zero] at h1
 exact h1.symm
theorem OwnS.ws (h : OwnS a w' A l) : WS w' A l := by
 by_cases h0 : l = []
 ·subst h0; exact WS.nil_ _ _
 ·obtain ⟨g, L, rfl, hg, hb, ht, hl⟩ := h h0
  have := hb.ws (o := 0) (n := l.length) (by omega)
  rwa [List.drop_zero, ht] at this
theorem OwnS.below (h : OwnS a w A l) (hb : Below w.heap.size w w') : OwnS a w' A l := fun h0 => by
 obtain ⟨g, L, e, hg, hk, ht, hl⟩ := h h0
 exact ⟨g, L, e, hg, hk.below hb, ht, hl⟩
theorem OwnS.mono {a a' w : World} (h : OwnS a' w A l) (hs : a.heap.size ≤ a'.heap.size) : OwnS a w A l := fun h0 => by
 obtain ⟨g, L, e, hg, hk, ht, hl⟩ := h h0
 exact ⟨g, L, e, Nat.le_trans hs hg, hk, ht, hl⟩
theorem val_lower (h : Top l) (h0 : 0 < l.length) : BB (l.length - 1) ≤ val l := by
 have h1 : l = l.take (l.length - 1) ++ [gd l (l.length - 1)] := by
  have := take_snoc l (k := l.length - 1) (by omega)
  rw [show l.length - 1 + 1 = l.length from by omega, List.take_length] at this
  exact this
 have h2 := h h0
 have h3 : val l = val (l.take (l.length - 1)) + BB (l.length - 1) * gd l (l.length - 1) := by
  have := val_snoc (l.take (l.length - 1)) (gd l (l.length - 1))
  rw [← h1, List.length_take, Nat.min_eq_left (by omega)] at this
  exact this
 rw [h3]
 have := Nat.le_mul_of_pos_right (BB (l.length - 1)) (Nat.pos_of_ne_zero h2)
 omega
theorem BB_mono (h : m ≤ n) : BB m ≤ BB n := Nat.pow_le_pow_right (by decide) h
theorem top_len (h : Top l) (hv : val l < BB m) : l.length ≤ m := by
 rcases Nat.lt_or_ge m l.length with h0 | h0
 ·have h1 := val_lower h (by omega)
  have h2 := BB_mono (show m ≤ l.length - 1 from by omega)
  omega
 ·exact h0
theorem top_nil : Top [] := fun h => absurd h (by simp)
theorem val_pos (h : Top l) (h0 : 0 < l.length) : 0 < val l := Nat.lt_of_lt_of_le (BB_pos _) (val_lower h h0)
theorem val_eq_zero (h : Top l) : val l = 0 ↔ l.length = 0 := by
 constructor
 ·intro hv
  rcases Nat.eq_zero_or_pos l.length with h0 | h0
  ·exact h0
  ·have := val_pos h h0; omega
 ·intro h0
  rw [List.eq_nil_of_length_eq_zero h0]; rfl
theorem val_inj : ∀ {a b : List Nat}, (∀ x ∈ a, x < 4294967296) → (∀ x ∈ b, x < 4294967296) → a.length = b.length → val a = val b → a = b
 | [], [], _, _, _, _ => rfl
 | x :: r, y :: q, ha, hb, hl, hv => by
  have h1 := ha x List.mem_cons_self
  have h2 := hb y List.mem_cons_self
  simp only [val] at hv
  have h3 : x = y := by omega
  have h4 : val r = val q := by omega
  rw [h3, val_inj (fun z hz => ha z (List.mem_cons_of_mem _ hz)) (fun z hz => hb z (List.mem_cons_of_mem _ hz)) (by simpa using hl) h4]
theorem top_inj {a b : List Nat} (ha : ∀ x ∈ a, x < 4294967296) (hb : ∀ x ∈ b, x < 4294967296) (ta : Top a) (tb : Top b) (hv : val a = val b) : a = b := by
 have h1 : a.length ≤ b.length := top_len ta (by rw [hv]; exact val_lt hb)
 have h2 : b.length ≤ a.length := top_len tb (by rw [← hv]; exact val_lt ha)
 exact val_inj ha hb (by omega) hv
theorem isB_top (h : isB neg l = true) : Top l := fun h0 h1 => by
 unfold isB at h
 rw [if_neg (by omega), h1] at h
 simp at h
theorem isB_nil (h : isB neg l = true) (h0 : l.length = 0) : neg = false := by
 unfold isB at h
 rw [if_pos h0] at h
 simpa using h
theorem isB_of (h : Top l) (h0 : l.length = 0 → neg = false) : isB neg l = true := by
 unfold isB
 by_cases h1 : l.length = 0
 ·rw [if_pos h1, h0 h1]; rfl
 ·rw [if_neg h1]
  have := h (by omega)
  simp only [bne_iff_ne, ne_eq]
  omega
def Box2 (W : World) (p : Nat) (u v : Value) : Prop := W.heap[p]? = some (.cells #[u, v] 24 (0, 0))
theorem Box2.set0 (h : Box2 W p u v) (x : Value) : Box2 (W.setCell ⟨p, 0, none⟩ x) p x v := by
 unfold Box2 at h ⊢
 simp [World.setCell, Array.getElem?_modify, h]
theorem Box2.set1 (h : Box2 W p u v) (x : Value) : Box2 (W.setCell ⟨p, 1, none⟩ x) p u x := by
 unfold Box2 at h ⊢
 simp [World.setCell, Array.getElem?_modify, h]
theorem Box2.cell0 (h : Box2 W p u v) : W.cell? ⟨p, 0, none⟩ = some u := by rw [cell_of_row W p 0 _ _ (0, 0) h]; rfl
theorem Box2.cell1 (h : Box2 W p u v) : W.cell? ⟨p, 1, none⟩ = some v := by rw [cell_of_row W p 1 _ _ (0, 0) h]; rfl
theorem Box2.cs (h : Box2 W p u v) : W.cell? ⟨p, 0, none⟩ = some u ∧ W.cell? ⟨p, 1, none⟩ = some v := ⟨h.cell0, h.cell1⟩
theorem Box2.free (h : Box2 W p u v) (i : Nat) : W.frozen? ⟨p, i, none⟩ = false := by
 unfold Box2 at h
 simp [World.frozen?, h]
theorem Box2.lt (h : Box2 W p u v) : p < W.heap.size := by
 rcases Nat.lt_or_ge p W.heap.size with hlt | hge
 ·exact hlt
 ·unfold Box2 at h; rw [Array.getElem?_eq_none hge] at h; cases h
theorem Box2.below (h : Box2 W p u v) (hb : Below W.heap.size W W') : Box2 W' p u v := (hb.block p h.lt).trans h
theorem Box2.new (W : World) (u v : Value) : Box2 (W.alloc (.cells #[u, v] 24)) W.heap.size u v := heap_alloc_new W _
theorem Box2.alloc (h : Box2 W p u v) (o : Obj) : Box2 (W.alloc o) p u v := h.below (ba (b0 _) _)
theorem Box2.back (h : Box2 W p u v) (x y : Value) :
  (W.setCell ⟨p, 0, none⟩ x).cell? ⟨p, 0, none⟩ = some x ∧ ((W.setCell ⟨p, 0, none⟩ x).setCell ⟨p, 1, none⟩ y).cell? ⟨p, 0, none⟩ = some x ∧ ((W.setCell ⟨p, 0, none⟩ x).setCell ⟨p, 1, none⟩ y).cell? ⟨p, 1, none⟩ = some y :=
 ⟨(h.set0 x).cell0, ((h.set0 x).set1 y).cell0, ((h.set0 x).set1 y).cell1⟩
theorem b2 (h : Below a.heap.size a w) (hp : a.heap.size ≤ p) (x y : Value) : Below a.heap.size a ((w.setCell ⟨p, 0, none⟩ x).setCell ⟨p, 1, none⟩ y) := bs (bs h hp _) hp _
theorem WS.two (h : WS w A l) (ho : Off A l p) (x y : Value) : WS ((w.setCell ⟨p, 0, none⟩ x).setCell ⟨p, 1, none⟩ y) A l :=
 h.only (((only_refl p w).set_ (.inl rfl) _).set_ (.inl rfl) _) ho
theorem OwnS.two (h : OwnS a w A l) (hp : p < a.heap.size) (x y : Value) : OwnS a ((w.setCell ⟨p, 0, none⟩ x).setCell ⟨p, 1, none⟩ y) A l := fun h0 => by
 obtain ⟨g, L, e, hg, hk, ht, hl⟩ := h h0
 exact ⟨g, L, e, hg, hk.only (((only_refl p w).set_ (.inl rfl) _).set_ (.inl rfl) _) (by omega), ht, hl⟩
def Cells (W : World) (p : Nat) (t : TypeId) (vs : Array Value) : Prop := W.heap[p]? = some (.cells vs t (0, 0))
theorem Cells.at_ {t : TypeId} {vs : Array Value} (h : Cells W p t vs) (i : Nat) : W.cell? ⟨p, i, none⟩ = vs[i]? := cell_of_row W p i _ _ (0, 0) h
theorem Cells.free {t : TypeId} {vs : Array Value} (h : Cells W p t vs) (i : Nat) : W.frozen? ⟨p, i, none⟩ = false := by
 unfold Cells at h
 simp [World.frozen?, h]
theorem Cells.set_ {t : TypeId} {vs : Array Value} (h : Cells W p t vs) (i : Nat) (x : Value) : Cells (W.setCell ⟨p, i, none⟩ x) p t (vs.setIfInBounds i x) := by
 unfold Cells at h ⊢
 simp [World.setCell, Array.getElem?_modify, h]
theorem Cells.lt {t : TypeId} {vs : Array Value} (h : Cells W p t vs) : p < W.heap.size := by
 rcases Nat.lt_or_ge p W.heap.size with hlt | hge
 ·exact hlt
 ·unfold Cells at h; rw [Array.getElem?_eq_none hge] at h; cases h
theorem Cells.below {t : TypeId} {vs : Array Value} (h : Cells W p t vs) (hb : Below W.heap.size W W') : Cells W' p t vs := (hb.block p h.lt).trans h
theorem Cells.only {t : TypeId} {vs : Array Value} (h : Cells W p t vs) (hb : Only g W W') (hne : p ≠ g) : Cells W' p t vs := (hb.block p h.lt (fun e => hne (by injection e))).trans h
theorem Cells.far {p q : Nat} {t : TypeId} {vs : Array Value} (h : Cells W p t vs) (hne : p ≠ q) (i : Nat) (x : Value) : Cells (W.setCell ⟨q, i, none⟩ x) p t vs := (Below.heap_setCell _ ⟨q, i, none⟩ x p hne).trans h
theorem Cells.new (W : World) (t : TypeId) (vs : Array Value) : Cells (W.alloc (.cells vs t)) W.heap.size t vs := heap_alloc_new W _
open Go Go.RowKit
variable {fuel : Nat} {w : World}
section
variable {P : Program} {ops : Array Oper} {Q : Exit → Act → World → Prop} {md : Region.Mode} {S : World → Prop}
theorem tk (i : Nat) {oi : Oper} {v : Value} {L L' : Array Bool} {a a' : Act} (h : wpAnyH P md ops Q S fuel L' a' w) (hi : ops[i]? = some oi := by rfl)
  (hs : Region.noSelect ops = true := by kernel_rfl) (hf : Region.free md ops L i = true := by kernel_rfl) (hr : (Region.ready md ops L).contains i = true := by kernel_rfl)
  (hQ : ∀ c a w, Q (.panic c) (a.put oi.dst v) w → Q (.panic c) a w := by exact fun _ _ _ h => h) (hw : Region.wanted oi (yielded ops a.tmps) = true := by rfl)
  (hy : ∀ w, S w → (execOp a.eval oi).run P w = .ok (.value v) w := by (intro w hSw; (try dsimp only at hSw); go_simp; all_goals with_reducible rfl)) (hS : S w := by assumption)
  (ha : a.put oi.dst v = a' := by (try simp only [Act.put, List.getElem_toArray, List.getElem_cons_zero, List.getElem_cons_succ, List.setIfInBounds_toArray, List.set_cons_zero, List.set_cons_succ]); all_goals rfl)
  (hL : L.setIfInBounds i true = L' := by (try simp only [List.setIfInBounds_toArray, List.set_cons_zero, List.set_cons_succ]); all_goals rfl) : wpAnyH P md ops Q S (fuel + 1) L a w := by
 subst ha hL
 exact wpAnyH_take hi hs hf hr hQ (Or.inl ⟨hw, hy⟩) hS h
theorem cl (i : Nat) {oi : Oper} {L : Array Bool} {a : Act} 
  (h : ∀ K' : Act → World → Prop, Shut (∀ a w, S w → (S w → wpAnyH P md ops Q S fuel (L.setIfInBounds i true) a w) → K' a w) → if Region.wanted oi (yielded ops a.tmps) = true then Oper.wp P oi a w K' Q else K' (a.put oi.dst undef) w)
  (hi : ops[i]? = some oi := by rfl) (hr : Region.ready md ops L = [i] := by kernel_rfl) : wpAnyH P md ops Q S (fuel + 1) L a w :=
 wpAnyH_ready hr (by simp) (AllReadyH.cons hi h AllReadyH.nil)
theorem rk {L L' : Array Bool} {a a' : Act} {K : Act → World → Prop} (hK : Shut (∀ a w, S w → (S w → wpAnyH P md ops Q S fuel L a w) → K a w)) (hS : S w) (h : S w → wpAnyH P md ops Q S fuel L' a' w)
  (ha : a = a' := by (try simp only [Act.put, List.getElem_toArray, List.getElem_cons_zero, List.getElem_cons_succ, List.setIfInBounds_toArray, List.set_cons_zero, List.set_cons_succ]); all_goals rfl)
  (hL : L = L' := by (try simp only [List.setIfInBounds_toArray, List.set_cons_zero, List.set_cons_succ]); all_goals rfl) : K a w := by
 subst ha hL
 exact hK.out _ _ hS h
end
section
variable {P : Program} {Q : Exit → Act → World → Prop} {S : World → Prop}
theorem rg0 {id : Nat} {a a' : Act} {l lh : List Oper} {R : Exit → Act → World → Prop} {L : Array Bool} (n : Nat) (HC : RowKit.Hid (∀ W, Below w.heap.size w W → S W)) (H : S w.drew → wpAnyH P .any lh.toArray R S n L a' w.drew)
  (e1 : l.take n = lh := by (simp only [List.take_succ_cons, List.take_zero]; all_goals rfl)) (e2 : HT P l.toArray (l.drop n) Q = R := by (simp only [List.drop_succ_cons, List.drop_zero]; all_goals rfl))
  (e3 : (Array.replicate n false : Array Bool) = L := by (first | rfl)) (e4 : a = a' := by (try simp only [Act.put, List.setIfInBounds_toArray, List.set_cons_zero, List.set_cons_succ]); all_goals rfl)
  (hm : P.follows .mixedOrders = true := by kernel_rfl) (hn : n < l.length := by decide)
  (hg : headB .any (l.take n) (l.drop n) = true := by kernel_rfl) (ht : tailB .any l.length (l.take n) (l.drop n) = true := by kernel_rfl) : (Code.region id l.toArray true).wp P Q a w := by
 subst e1 e2 e3 e4
 exact wp_region_cut0 n S hm hn hg ht (HC.out _ (bw (b0 _))) H
theorem rgh {id : Nat} {a a' : Act} {ops : Array Oper} (HC : RowKit.Hid (∀ W, Below w.heap.size w W → S W)) (H : S w.drew → wpAnyH P .any ops Q S ops.size (Array.replicate ops.size false) a' w.drew)
  (e4 : a = a' := by (try simp only [Act.put, List.setIfInBounds_toArray, List.set_cons_zero, List.set_cons_succ]); all_goals rfl) (hm : P.follows .mixedOrders = true := by kernel_rfl) : (Code.region id ops true).wp P Q a w := by
 subst e4
 exact wp_region_held_drew hm (HC.out _ (bw (b0 _))) H
theorem gend {P R : Prop} (hR : R) (h : R → P := by (intro hr_; first | exact hr_ | (rename_i k_ h_; revert k_ h_; exact hr_) | (rename_i k_ h_ l_; revert k_ h_ l_; exact hr_) | (rename_i k_ h_ l_ m_; revert k_ h_ l_ m_; exact hr_) | (rename_i k_ h_ l_ m_ n_; revert k_ h_ l_ m_ n_; exact hr_) | (rename_i k_ h_ l_ m_ n_ o_; revert k_ h_ l_ m_ n_ o_; exact hr_) | (rename_i k_ h_ l_ m_ n_ o_ p_; revert k_ h_ l_ m_ n_ o_ p_; exact hr_) | (rename_i k_ h_ l_ m_ n_ o_ p_ q_; revert k_ h_ l_ m_ n_ o_ p_ q_; exact hr_))) : P := h hR
theorem hj {S1 S2 : World → Prop} (h : RowKit.Hid (∀ W, Below w.heap.size w W → S1 W)) (k : RowKit.Hid (∀ W, Below w.heap.size w W → S2 W)) : RowKit.Hid (∀ W, Below w.heap.size w W → S1 W ∧ S2 W) :=
 Hi fun W hb => ⟨h.out W hb, k.out W hb⟩
theorem g0 {P R : Prop} (hR : R) (h : R → P := by (intro hr_; obtain ⟨_, _, _, _⟩ := x0.cs; go_wp2_with fail; exact gend hr_)) : P := h hR
theorem g01 {P R : Prop} (hR : R) (h : R → P := by (intro hr_; obtain ⟨_, _, _, _⟩ := x0.cs; obtain ⟨_, _, _, _⟩ := x1.cs; go_wp2_with fail; exact gend hr_)) : P := h hR
theorem g0i {P R : Prop} (hR : R) (h : R → P := by (intro hr_; obtain ⟨_, _⟩ := x0.cs; go_wp2_with fail; exact gend hr_)) : P := h hR
theorem g0i1i {P R : Prop} (hR : R) (h : R → P := by (intro hr_; obtain ⟨_, _⟩ := x0.cs; obtain ⟨_, _⟩ := x1.cs; go_wp2_with fail; exact gend hr_)) : P := h hR
theorem g0i1igi {P R : Prop} (hR : R) (h : R → P := by (intro hr_; obtain ⟨_, _⟩ := x0.cs; obtain ⟨_, _⟩ := x1.cs; obtain ⟨_, _⟩ := xg.cs; go_wp2_with fail; exact gend hr_)) : P := h hR
theorem g1 {P R : Prop} (hR : R) (h : R → P := by (intro hr_; obtain ⟨_, _, _, _⟩ := x1.cs; go_wp2_with fail; exact gend hr_)) : P := h hR
theorem g1mi {P R : Prop} (hR : R) (h : R → P := by (intro hr_; obtain ⟨_, _, _, _⟩ := x1.cs; obtain ⟨_, _⟩ := xm.cs; go_wp2_with fail; exact gend hr_)) : P := h hR
theorem ggi {P R : Prop} (hR : R) (h : R → P := by (intro hr_; obtain ⟨_, _⟩ := xg.cs; go_wp2_with fail; exact gend hr_)) : P := h hR
theorem gli {P R : Prop} (hR : R) (h : R → P := by (intro hr_; obtain ⟨_, _⟩ := xl.cs; go_wp2_with fail; exact gend hr_)) : P := h hR
theorem gnidi {P R : Prop} (hR : R) (h : R → P := by (intro hr_; obtain ⟨_, _⟩ := xn.cs; obtain ⟨_, _⟩ := xd.cs; go_wp2_with fail; exact gend hr_)) : P := h hR
theorem gnigi {P R : Prop} (hR : R) (h : R → P := by (intro hr_; obtain ⟨_, _⟩ := xn.cs; obtain ⟨_, _⟩ := xg.cs; go_wp2_with fail; exact gend hr_)) : P := h hR
end
end Go.Proofs.YtgljdfblgpdaaaaGreatDoor
