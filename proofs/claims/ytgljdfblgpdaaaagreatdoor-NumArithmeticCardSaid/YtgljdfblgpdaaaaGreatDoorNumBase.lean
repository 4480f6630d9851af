/- Words of integers in memory: what a slice of words reads as, what a block of words holds, and what stays. -/
import Derived.WalkKit
import Derived.WalkSpells
import Derived.WalkLawsBesides
import Derived.Lib.Hide
import Derived.BigQuiet
import Derived.Deep.QuietTactic
import Derived.Handy
import Derived.Laws.CopyOwn
import Derived.Laws.MakeOwn
import Derived.Deep.Draws
import Derived.Laws.Rows
set_option linter.unusedSimpArgs false
set_option linter.unusedVariables false
namespace Go.Proofs.YtgljdfblgpdaaaaGreatDoor
open Go.RowKit

/-- The word at place j, 0 behind the last one (a name that the walk does not look into). -/
def gd (l : List Nat) (j : Nat) : Nat := l.getD j 0
theorem gd_at {l : List Nat} {j : Nat} (h : j < l.length) : gd l j = l[j] := by simp [gd, List.getD_eq_getElem?_getD, List.getElem?_eq_getElem h]
theorem gd_end {l : List Nat} {j : Nat} (h : l.length ≤ j) : gd l j = 0 := by simp [gd, List.getD_eq_getElem?_getD, List.getElem?_eq_none h]

/-- The slice at A holds the words l, in a block that is there. -/
def WS (w : World) (A : Option Addr) (l : List Nat) : Prop :=
  (∀ x ∈ l, x < 4294967296) ∧ (l ≠ [] → ∃ b off, A = some ⟨b, off, none⟩ ∧ b < w.heap.size ∧
    ∀ j, j < l.length → w.cell? ⟨b, off + j, none⟩ = some (.int .u32 ((gd l j : Nat) : Int)))

theorem WS.below {w w' : World} {A : Option Addr} {l : List Nat} (h : WS w A l) (hb : Below w.heap.size w w') : WS w' A l :=
  ⟨h.1, fun hl => by
    obtain ⟨b, off, e, hlt, hc⟩ := h.2 hl
    exact ⟨b, off, e, Nat.lt_of_lt_of_le hlt hb.size, fun j hj => (hb.cell (p := ⟨b, off + j, none⟩) hlt).trans (hc j hj)⟩⟩
theorem WS.at_ {w : World} {A : Option Addr} {l : List Nat} (h : WS w A l) (hj : 0 < l.length) :
    ∃ b off, A = some ⟨b, off, none⟩ ∧ b < w.heap.size ∧ ∀ j, j < l.length → w.cell? ⟨b, off + j, none⟩ = some (.int .u32 ((gd l j : Nat) : Int)) :=
  h.2 (by rintro rfl; simp at hj)
theorem WS.nil_ (w : World) (A : Option Addr) : WS w A [] := ⟨by simp, fun h => absurd rfl h⟩
theorem getD_lt {l : List Nat} (h : ∀ x ∈ l, x < 4294967296) (j : Nat) : gd l j < 4294967296 := by
  unfold gd
  rw [List.getD_eq_getElem?_getD]
  rcases Nat.lt_or_ge j l.length with hj | hj
  · rw [List.getElem?_eq_getElem hj]; exact h _ (List.getElem_mem hj)
  · rw [List.getElem?_eq_none hj]; decide
theorem WS.lt {w : World} {A : Option Addr} {l : List Nat} (h : WS w A l) (j : Nat) : gd l j < 4294967296 := getD_lt h.1 j

/-- In canonical form: the last word is not 0, and zero is not negative. -/
def isB (neg : Bool) (l : List Nat) : Bool := if l.length = 0 then !neg else (((gd l (l.length - 1) : Nat) : Int) != 0)

theorem ret_bool {a b : Bool} (h : a = b) : Ending.returned (.bool a) = .returned (.bool b) := by rw [h]
theorem ret_int {k : IntKind} {a b : Int} (h : a = b) : Ending.returned (.int k a) = .returned (.int k b) := by rw [h]

/- ### What stays -/
theorem bcell {W w1 : World} (hb : Below W.heap.size W w1) : (∀ b o, b < W.heap.size → w1.cell? ⟨b, o, none⟩ = W.cell? ⟨b, o, none⟩) ∧ (∀ b o, b < W.heap.size → w1.frozen? ⟨b, o, none⟩ = W.frozen? ⟨b, o, none⟩) :=
  ⟨fun b o h => hb.cell (p := ⟨b, o, none⟩) h, fun b o h => hb.frozen (p := ⟨b, o, none⟩) h⟩
theorem b0 (a : World) : Below a.heap.size a a := Below.refl _ _
theorem ba {a w : World} (h : Below a.heap.size a w) (o : Obj) : Below a.heap.size a (w.alloc o) := h.alloc h.size o
theorem bt {a w w' : World} (h : Below a.heap.size a w) (k : Below w.heap.size w w') : Below a.heap.size a w' := h.trans (k.mono h.size)
theorem bs {a w : World} (h : Below a.heap.size a w) {p : Addr} (hp : a.heap.size ≤ p.block) (u : Value) : Below a.heap.size a (w.setCell p u) := h.setCell hp u
theorem bd {a w : World} (h : Below a.heap.size a w) (n : Nat) : Below a.heap.size a (w.drewN n) := ⟨h.os, h.tape, h.output, h.size, h.block⟩
theorem bw {a w : World} (h : Below a.heap.size a w) : Below a.heap.size a w.drew := h.drew

/-- Words as cells (a name that the walk does not look into). -/
def words (L : List Nat) : Array Value := (L.map fun (x : Nat) => Value.int .u32 (x : Int)).toArray
/-- Block g is the words L, all of them its own. -/
def Blk (w : World) (g : Nat) (L : List Nat) : Prop := (∀ x ∈ L, x < 4294967296) ∧ w.heap[g]? = some (.cells (words L) 83 (0, 0))
/-- Nothing that was there has turned but for block g. -/
def Only (g : Nat) (w w' : World) : Prop := w.grownBy w' (some g)

theorem Blk.lt {w : World} {g : Nat} {L : List Nat} (h : Blk w g L) : g < w.heap.size := by
  rcases Nat.lt_or_ge g w.heap.size with hlt | hge
  · exact hlt
  · have := h.2; rw [Array.getElem?_eq_none hge] at this; cases this
theorem Blk.cell {w : World} {g : Nat} {L : List Nat} (h : Blk w g L) {i : Nat} (hi : i < L.length) : w.cell? ⟨g, i, none⟩ = some (.int .u32 ((gd L i : Nat) : Int)) := by
  rw [cell_of_row w g i _ _ (0, 0) h.2]
  simp [words, gd, List.getD_eq_getElem?_getD, List.getElem?_eq_getElem hi]
theorem Blk.free {w : World} {g : Nat} {L : List Nat} (h : Blk w g L) (i : Nat) : w.frozen? ⟨g, i, none⟩ = false := by
  have := h.2
  simp [World.frozen?, this]
theorem Blk.set_ {w : World} {g : Nat} {L : List Nat} (h : Blk w g L) {i x : Nat} (hx : x < 4294967296) : Blk (w.setCell ⟨g, i, none⟩ (.int .u32 (x : Int))) g (L.set i x) := by
  refine ⟨fun y hy => ?_, ?_⟩
  · rcases List.mem_or_eq_of_mem_set hy with h1 | h1
    · exact h.1 y h1
    · rw [h1]; exact hx
  · have := h.2
    simp [World.setCell, Array.getElem?_modify, this, words, List.map_set]
theorem Blk.draw {w : World} {g : Nat} {L : List Nat} (h : Blk w g L) (n : Nat) : Blk (w.drewN n) g L := h
theorem Blk.below {w w' : World} {g : Nat} {L : List Nat} (h : Blk w g L) (hb : Below w.heap.size w w') : Blk w' g L := ⟨h.1, (hb.block g h.lt).trans h.2⟩
theorem Blk.only {w w' : World} {g g' : Nat} {L : List Nat} (h : Blk w g L) (hb : Only g' w w') (hne : g ≠ g') : Blk w' g L := ⟨h.1, (hb.block g h.lt (fun e => hne (by injection e))).trans h.2⟩
theorem Blk.ws {w : World} {g : Nat} {L : List Nat} (h : Blk w g L) {o n : Nat} (hn : o + n ≤ L.length) : WS w (some ⟨g, o, none⟩) ((L.drop o).take n) := by
  refine ⟨fun x hx => h.1 x (List.mem_of_mem_drop (List.mem_of_mem_take hx)), fun _ => ⟨g, o, rfl, h.lt, fun j hj => ?_⟩⟩
  have hj' : j < n := by simp at hj; omega
  rw [h.cell (by omega)]
  simp [gd, List.getD_eq_getElem?_getD, hj', List.getElem?_drop]

theorem only_refl (g : Nat) (w : World) : Only g w w := ⟨rfl, rfl, rfl, Nat.le_refl _, fun _ _ _ => rfl⟩
theorem Only.below {g : Nat} {a w w' : World} (h : Only g a w) (k : Below w.heap.size w w') : Only g a w' :=
  ⟨k.os.trans h.os, k.tape.trans h.tape, k.output.trans h.output, Nat.le_trans h.size k.size, fun i hi hn => (k.block i (Nat.lt_of_lt_of_le hi h.size)).trans (h.block i hi hn)⟩
theorem Only.trans {g : Nat} {a w w' : World} (h : Only g a w) (k : Only g w w') : Only g a w' :=
  ⟨k.os.trans h.os, k.tape.trans h.tape, k.output.trans h.output, Nat.le_trans h.size k.size, fun i hi hn => (k.block i (Nat.lt_of_lt_of_le hi h.size) hn).trans (h.block i hi hn)⟩
theorem Only.fresh {g g' : Nat} {a w w' : World} (h : Only g a w) (k : Only g' w w') (hg : a.heap.size ≤ g') : Only g a w' :=
  ⟨k.os.trans h.os, k.tape.trans h.tape, k.output.trans h.output, Nat.le_trans h.size k.size, fun i hi hn => (k.block i (Nat.lt_of_lt_of_le hi h.size) (fun e => by injection e; omega)).trans (h.block i hi hn)⟩
theorem Only.draw {g : Nat} {a w : World} (h : Only g a w) (n : Nat) : Only g a (w.drewN n) := ⟨h.os, h.tape, h.output, h.size, h.block⟩
theorem Only.alloc {g : Nat} {a w : World} (h : Only g a w) (o : Obj) : Only g a (w.alloc o) := h.below (ba (b0 _) _)
theorem Only.set_ {g : Nat} {a w : World} (h : Only g a w) {p : Addr} (hp : p.block = g ∨ a.heap.size ≤ p.block) (u : Value) : Only g a (w.setCell p u) :=
  ⟨h.os, h.tape, h.output, by simpa [World.setCell] using h.size, fun i hi hne => (Below.heap_setCell w p u i (by
    rintro rfl
    rcases hp with hp | hp
    · exact hne (by rw [hp])
    · omega)).trans (h.block i hi hne)⟩
/-- Behind a call that turned a block of the caller's own alone. -/
theorem bo {g : Nat} {a w w' : World} (h : Below a.heap.size a w) (k : Only g w w') (hg : a.heap.size ≤ g) : Below a.heap.size a w' :=
  h.trans ⟨k.os, k.tape, k.output, k.size, fun i hi => k.block i (Nat.lt_of_lt_of_le hi h.size) (fun e => by injection e; omega)⟩
theorem Only.mono {g : Nat} {a w : World} (h : Below a.heap.size a w) : Only g a w := ⟨h.os, h.tape, h.output, h.size, fun i hi _ => h.block i hi⟩

/-- The slice at A does not lie in block g. -/
def Off (A : Option Addr) (l : List Nat) (g : Nat) : Prop := l ≠ [] → ∀ b o, A = some ⟨b, o, none⟩ → b ≠ g
theorem WS.only {w w' : World} {A : Option Addr} {l : List Nat} {g : Nat} (h : WS w A l) (hb : Only g w w') (ho : Off A l g) : WS w' A l :=
  ⟨h.1, fun hl => by
    obtain ⟨b, off, e, hlt, hc⟩ := h.2 hl
    refine ⟨b, off, e, Nat.lt_of_lt_of_le hlt hb.size, fun j hj => ?_⟩
    rw [← hc j hj]
    exact World.cell?_of_block (hb.block b hlt (fun q => ho hl b off e (by injection q)))⟩
theorem ocell {g : Nat} {W w1 : World} (hb : Only g W w1) : (∀ b o, b < W.heap.size → b ≠ g → w1.cell? ⟨b, o, none⟩ = W.cell? ⟨b, o, none⟩) ∧ (∀ b o, b < W.heap.size → b ≠ g → w1.frozen? ⟨b, o, none⟩ = W.frozen? ⟨b, o, none⟩) :=
  ⟨fun b _ h hn => World.cell?_of_block (hb.block b h (fun q => hn (by injection q))), fun b _ h hn => World.frozen?_of_block (hb.block b h (fun q => hn (by injection q)))⟩
theorem WS.off {w : World} {A : Option Addr} {l : List Nat} (h : WS w A l) {g : Nat} (hg : w.heap.size ≤ g) : Off A l g := by
  rintro hl b o rfl rfl
  obtain ⟨b', off, e, hlt, _⟩ := h.2 hl
  injection e with e
  injection e with e1 e2
  omega
theorem WS.off' {w : World} {A : Option Addr} {l : List Nat} (h : WS w A l) {g : Nat} (hg : w.heap.size ≤ g) (k : Nat) : Off A l (g + k) := h.off (by omega)

/- ### Values -/
/-- The number that words are, the lowest one first. -/
def val : List Nat → Nat
  | [] => 0
  | x :: r => x + 4294967296 * val r
def BB (n : Nat) : Nat := 4294967296 ^ n
theorem BB_succ (n : Nat) : BB (n + 1) = BB n * 4294967296 := Nat.pow_succ ..
theorem BB_pos (n : Nat) : 0 < BB n := Nat.pow_pos (by decide)
theorem BB_zero : BB 0 = 1 := rfl
theorem BB_add (m n : Nat) : BB (m + n) = BB m * BB n := Nat.pow_add _ _ _
theorem val_append (a b : List Nat) : val (a ++ b) = val a + BB a.length * val b := by
  induction a with
  | nil => simp [val, BB]
  | cons x r ih =>
    simp only [List.cons_append, val, ih, List.length_cons, BB_succ]
    rw [Nat.mul_add, Nat.mul_comm (BB r.length) 4294967296, Nat.mul_assoc]
    omega
theorem val_snoc (a : List Nat) (x : Nat) : val (a ++ [x]) = val a + BB a.length * x := by
  rw [val_append]; simp [val]
theorem val_lt {a : List Nat} (h : ∀ x ∈ a, x < 4294967296) : val a < BB a.length := by
  induction a with
  | nil => simp [val, BB]
  | cons x r ih =>
    have h1 := ih (fun y hy => h y (List.mem_cons_of_mem _ hy))
    have h2 := h x List.mem_cons_self
    simp only [val, List.length_cons, BB_succ]
    have h3 : val r + 1 ≤ BB r.length := h1
    have := Nat.mul_le_mul_right 4294967296 h3
    omega
theorem take_snoc (l : List Nat) {k : Nat} (h : k < l.length) : l.take (k + 1) = l.take k ++ [gd l k] := by
  rw [List.take_succ_eq_append_getElem h]
  simp [gd, List.getD_eq_getElem?_getD, List.getElem?_eq_getElem h]
theorem val_take (l : List Nat) {k : Nat} (h : k < l.length) : val (l.take (k + 1)) = val (l.take k) + BB k * gd l k := by
  rw [take_snoc l h, val_snoc, List.length_take, Nat.min_eq_left (by omega)]
theorem words_snoc {S : List Nat} {x : Nat} (h : ∀ y ∈ S, y < 4294967296) (hx : x < 4294967296) : ∀ y ∈ S ++ [x], y < 4294967296 := by
  intro y hy
  rcases List.mem_append.1 hy with h1 | h1
  · exact h y h1
  · rw [List.mem_singleton.1 h1]; exact hx

/-- L with S laid over it from place o on. -/
def spl (L : List Nat) (o : Nat) (S : List Nat) : List Nat := L.take o ++ S ++ L.drop (o + S.length)
theorem spl_nil (L : List Nat) (o : Nat) : spl L o [] = L := by simp [spl]
theorem spl_length {L : List Nat} {o : Nat} {S : List Nat} (h : o + S.length ≤ L.length) : (spl L o S).length = L.length := by
  simp only [spl, List.length_append, List.length_take, List.length_drop]; omega
theorem spl_set {L : List Nat} {o : Nat} {S : List Nat} (x : Nat) (h : o + S.length < L.length) : (spl L o S).set (o + S.length) x = spl L o (S ++ [x]) := by
  have h1 : L.drop (o + S.length) = gd L (o + S.length) :: L.drop (o + S.length + 1) := by
    rw [List.drop_eq_getElem_cons h]; simp [gd, List.getD_eq_getElem?_getD, List.getElem?_eq_getElem h]
  simp only [spl, List.length_append, List.length_cons, List.length_nil, h1]
  rw [List.set_append_right _ _ (by simp; omega)]
  have h2 : o + S.length - (L.take o ++ S).length = 0 := by simp; omega
  rw [h2]
  simp [Nat.add_assoc]
theorem spl_get {L : List Nat} {o : Nat} {S : List Nat} {j : Nat} (h : o + S.length ≤ j) (hL : o + S.length ≤ L.length) : gd (spl L o S) j = gd L j := by
  simp only [gd, spl, List.getD_eq_getElem?_getD]
  rw [List.getElem?_append_right (by simp; omega)]
  simp only [List.length_append, List.length_take, List.getElem?_drop]
  congr 2
  omega
/-- The n words of L from place o on. -/
def seg (L : List Nat) (o n : Nat) : List Nat := (L.drop o).take n
theorem seg_length {L : List Nat} {o n : Nat} (h : o + n ≤ L.length) : (seg L o n).length = n := by simp [seg]; omega
theorem seg_spl {L : List Nat} {o : Nat} {S : List Nat} (h : o + S.length ≤ L.length) : seg (spl L o S) o S.length = S := by
  simp only [seg, spl, List.append_assoc]
  rw [List.drop_append_of_le_length (by simp; omega), List.drop_eq_nil_of_le (by simp; omega)]
  simp
theorem val_seg_succ (L : List Nat) (o : Nat) {k : Nat} (h : o + k < L.length) : val (seg L o (k + 1)) = val (seg L o k) + BB k * gd L (o + k) := by
  unfold seg
  rw [val_take _ (by simp; omega)]
  simp [gd, List.getD_eq_getElem?_getD, List.getElem?_drop]
theorem seg_zero (L : List Nat) (o : Nat) : seg L o 0 = [] := by simp [seg]

/- ### Results -/
/-- The highest word is not 0. -/
def Top (l : List Nat) : Prop := 0 < l.length → gd l (l.length - 1) ≠ 0
/-- The slice at A, if it is not empty, is the beginning of a block of its own that was not there in the world a. -/
def OwnS (a w' : World) (A : Option Addr) (l : List Nat) : Prop :=
  l ≠ [] → ∃ g L, A = some ⟨g, 0, none⟩ ∧ a.heap.size ≤ g ∧ Blk w' g L ∧ L.take l.length = l ∧ l.length ≤ L.length
/-- A call returned the words of the number N, in memory of its own. -/
def Res (a : World) (N : Nat) (e : Ending) (w' : World) : Prop :=
  ∃ A c l, e = .returned (.slice A l.length c) ∧ l.length ≤ c ∧ OwnS a w' A l ∧ Top l ∧ val l = N ∧ Below a.heap.size a w'

theorem gd_take {l : List Nat} {k j : Nat} (h : j < k) : gd (l.take k) j = gd l j := by
  simp [gd, List.getD_eq_getElem?_getD, List.getElem?_take, h]
theorem gd_drop (l : List Nat) (k j : Nat) : gd (l.drop k) j = gd l (k + j) := by
  simp [gd, List.getD_eq_getElem?_getD, List.getElem?_drop]
theorem val_zero_of : ∀ (l : List Nat), (∀ j, gd l j = 0) → val l = 0
  | [], _ => rfl
  | x :: r, h => by
    have h0 : x = 0 := h 0
    have h1 := val_zero_of r (fun j => h (j + 1))
    simp [val, h0, h1]
theorem val_take_top (l : List Nat) (k : Nat) (h : ∀ j, k ≤ j → gd l j = 0) : val (l.take k) = val l := by
  have h1 := val_append (l.take k) (l.drop k)
  rw [List.take_append_drop, val_zero_of (l.drop k) (fun j => by rw [gd_drop]; exact h _ (by omega)), Nat.mul_zero, Nat.add_zero] at h1
  exact h1.symm
theorem OwnS.ws {a w' : World} {A : Option Addr} {l : List Nat} (h : OwnS a w' A l) : WS w' A l := by
  by_cases h0 : l = []
  · subst h0; exact WS.nil_ _ _
  · obtain ⟨g, L, rfl, hg, hb, ht, hl⟩ := h h0
    have := hb.ws (o := 0) (n := l.length) (by omega)
    rwa [List.drop_zero, ht] at this
theorem OwnS.below {a w w' : World} {A : Option Addr} {l : List Nat} (h : OwnS a w A l) (hb : Below w.heap.size w w') : OwnS a w' A l := fun h0 => by
  obtain ⟨g, L, e, hg, hk, ht, hl⟩ := h h0
  exact ⟨g, L, e, hg, hk.below hb, ht, hl⟩
theorem OwnS.mono {a a' w : World} {A : Option Addr} {l : List Nat} (h : OwnS a' w A l) (hs : a.heap.size ≤ a'.heap.size) : OwnS a w A l := fun h0 => by
  obtain ⟨g, L, e, hg, hk, ht, hl⟩ := h h0
  exact ⟨g, L, e, Nat.le_trans hs hg, hk, ht, hl⟩
theorem Res.from_ {a w : World} {N : Nat} {e : Ending} {w' : World} (h : Res w N e w') (hb : Below a.heap.size a w) : Res a N e w' := by
  obtain ⟨A, c, l, he, hc, ho, ht, hv, hb'⟩ := h
  exact ⟨A, c, l, he, hc, ho.mono hb.size, ht, hv, bt hb hb'⟩
theorem val_lower {l : List Nat} (h : Top l) (h0 : 0 < l.length) : BB (l.length - 1) ≤ val l := by
  have h1 : l = l.take (l.length - 1) ++ [gd l (l.length - 1)] := by
    have := take_snoc l (k := l.length - 1) (by omega)
    rw [show l.length - 1 + 1 = l.length from by omega, List.take_length] at this
    exact this
  have h2 := h h0
  have h3 : val l = val (l.take (l.length - 1)) + BB (l.length - 1) * gd l (l.length - 1) := by
    have := val_snoc (l.take (l.length - 1)) (gd l (l.length - 1))
    rw [← h1, List.length_take, Nat.min_eq_left (by omega)] at this
    exact this
  rw [h3]
  have := Nat.le_mul_of_pos_right (BB (l.length - 1)) (Nat.pos_of_ne_zero h2)
  omega
theorem BB_mono {m n : Nat} (h : m ≤ n) : BB m ≤ BB n := Nat.pow_le_pow_right (by decide) h
theorem top_len {l : List Nat} {m : Nat} (h : Top l) (hv : val l < BB m) : l.length ≤ m := by
  rcases Nat.lt_or_ge m l.length with h0 | h0
  · have h1 := val_lower h (by omega)
    have h2 := BB_mono (show m ≤ l.length - 1 from by omega)
    omega
  · exact h0
theorem top_nil : Top [] := fun h => absurd h (by simp)
theorem val_pos {l : List Nat} (h : Top l) (h0 : 0 < l.length) : 0 < val l := Nat.lt_of_lt_of_le (BB_pos _) (val_lower h h0)
theorem val_eq_zero {l : List Nat} (h : Top l) : val l = 0 ↔ l.length = 0 := by
  constructor
  · intro hv
    rcases Nat.eq_zero_or_pos l.length with h0 | h0
    · exact h0
    · have := val_pos h h0; omega
  · intro h0
    rw [List.eq_nil_of_length_eq_zero h0]; rfl
theorem val_inj : ∀ {a b : List Nat}, (∀ x ∈ a, x < 4294967296) → (∀ x ∈ b, x < 4294967296) → a.length = b.length → val a = val b → a = b
  | [], [], _, _, _, _ => rfl
  | x :: r, y :: q, ha, hb, hl, hv => by
    have h1 := ha x List.mem_cons_self
    have h2 := hb y List.mem_cons_self
    simp only [val] at hv
    have h3 : x = y := by omega
    have h4 : val r = val q := by omega
    rw [h3, val_inj (fun z hz => ha z (List.mem_cons_of_mem _ hz)) (fun z hz => hb z (List.mem_cons_of_mem _ hz)) (by simpa using hl) h4]
theorem top_inj {a b : List Nat} (ha : ∀ x ∈ a, x < 4294967296) (hb : ∀ x ∈ b, x < 4294967296) (ta : Top a) (tb : Top b) (hv : val a = val b) : a = b := by
  have h1 : a.length ≤ b.length := top_len ta (by rw [hv]; exact val_lt hb)
  have h2 : b.length ≤ a.length := top_len tb (by rw [← hv]; exact val_lt ha)
  exact val_inj ha hb (by omega) hv
theorem isB_top {neg : Bool} {l : List Nat} (h : isB neg l = true) : Top l := fun h0 h1 => by
  unfold isB at h
  rw [if_neg (by omega), h1] at h
  simp at h
theorem isB_nil {neg : Bool} {l : List Nat} (h : isB neg l = true) (h0 : l.length = 0) : neg = false := by
  unfold isB at h
  rw [if_pos h0] at h
  simpa using h
theorem isB_of {neg : Bool} {l : List Nat} (h : Top l) (h0 : l.length = 0 → neg = false) : isB neg l = true := by
  unfold isB
  by_cases h1 : l.length = 0
  · rw [if_pos h1, h0 h1]; rfl
  · rw [if_neg h1]
    have := h (by omega)
    simp only [bne_iff_ne, ne_eq]
    omega

/- ### A struct of two cells that is stored as a whole -/
def Box2 (W : World) (p : Nat) (u v : Value) : Prop := W.heap[p]? = some (.cells #[u, v] 24 (0, 0))
theorem Box2.set0 {W : World} {p : Nat} {u v : Value} (h : Box2 W p u v) (x : Value) : Box2 (W.setCell ⟨p, 0, none⟩ x) p x v := by
  unfold Box2 at h ⊢
  simp [World.setCell, Array.getElem?_modify, h]
theorem Box2.set1 {W : World} {p : Nat} {u v : Value} (h : Box2 W p u v) (x : Value) : Box2 (W.setCell ⟨p, 1, none⟩ x) p u x := by
  unfold Box2 at h ⊢
  simp [World.setCell, Array.getElem?_modify, h]
theorem Box2.cell0 {W : World} {p : Nat} {u v : Value} (h : Box2 W p u v) : W.cell? ⟨p, 0, none⟩ = some u := by rw [cell_of_row W p 0 _ _ (0, 0) h]; rfl
theorem Box2.cell1 {W : World} {p : Nat} {u v : Value} (h : Box2 W p u v) : W.cell? ⟨p, 1, none⟩ = some v := by rw [cell_of_row W p 1 _ _ (0, 0) h]; rfl
theorem Box2.free {W : World} {p : Nat} {u v : Value} (h : Box2 W p u v) (i : Nat) : W.frozen? ⟨p, i, none⟩ = false := by
  unfold Box2 at h
  simp [World.frozen?, h]
theorem Box2.lt {W : World} {p : Nat} {u v : Value} (h : Box2 W p u v) : p < W.heap.size := by
  rcases Nat.lt_or_ge p W.heap.size with hlt | hge
  · exact hlt
  · unfold Box2 at h; rw [Array.getElem?_eq_none hge] at h; cases h
theorem Box2.below {W W' : World} {p : Nat} {u v : Value} (h : Box2 W p u v) (hb : Below W.heap.size W W') : Box2 W' p u v := (hb.block p h.lt).trans h
theorem Box2.new (W : World) (u v : Value) : Box2 (W.alloc (.cells #[u, v] 24)) W.heap.size u v := heap_alloc_new W _
theorem Box2.alloc {W : World} {p : Nat} {u v : Value} (h : Box2 W p u v) (o : Obj) : Box2 (W.alloc o) p u v := h.below (ba (b0 _) _)
/-- What stands behind the store of a struct: the two cells, read back. -/
theorem Box2.back {W : World} {p : Nat} {u v : Value} (h : Box2 W p u v) (x y : Value) :
    (W.setCell ⟨p, 0, none⟩ x).cell? ⟨p, 0, none⟩ = some x ∧ ((W.setCell ⟨p, 0, none⟩ x).setCell ⟨p, 1, none⟩ y).cell? ⟨p, 0, none⟩ = some x ∧ ((W.setCell ⟨p, 0, none⟩ x).setCell ⟨p, 1, none⟩ y).cell? ⟨p, 1, none⟩ = some y :=
  ⟨(h.set0 x).cell0, ((h.set0 x).set1 y).cell0, ((h.set0 x).set1 y).cell1⟩
/-- A store of a struct into a block of the call's own. -/
theorem b2 {a w : World} (h : Below a.heap.size a w) {p : Nat} (hp : a.heap.size ≤ p) (x y : Value) : Below a.heap.size a ((w.setCell ⟨p, 0, none⟩ x).setCell ⟨p, 1, none⟩ y) := bs (bs h hp _) hp _
theorem WS.two {w : World} {A : Option Addr} {l : List Nat} (h : WS w A l) {p : Nat} (ho : Off A l p) (x y : Value) : WS ((w.setCell ⟨p, 0, none⟩ x).setCell ⟨p, 1, none⟩ y) A l :=
  h.only (((only_refl p w).set_ (.inl rfl) _).set_ (.inl rfl) _) ho
theorem OwnS.two {a w : World} {A : Option Addr} {l : List Nat} (h : OwnS a w A l) {p : Nat} (hp : p < a.heap.size) (x y : Value) : OwnS a ((w.setCell ⟨p, 0, none⟩ x).setCell ⟨p, 1, none⟩ y) A l := fun h0 => by
  obtain ⟨g, L, e, hg, hk, ht, hl⟩ := h h0
  exact ⟨g, L, e, hg, hk.only (((only_refl p w).set_ (.inl rfl) _).set_ (.inl rfl) _) (by omega), ht, hl⟩
/-- Words in one block and a struct in another lie apart. -/
theorem off_old {A : Option Addr} {l : List Nat} {p : Nat} (h : l ≠ [] → ∃ b o, A = some ⟨b, o, none⟩ ∧ b ≠ p) : Off A l p := fun hl b o e => by
  obtain ⟨b', o', e', hne⟩ := h hl
  rw [e'] at e
  injection e with e
  injection e with e1 e2
  rw [← e1]; exact hne

/- ### A struct of any number of cells -/
def Cells (W : World) (p : Nat) (t : TypeId) (vs : Array Value) : Prop := W.heap[p]? = some (.cells vs t (0, 0))
theorem Cells.at_ {W : World} {p : Nat} {t : TypeId} {vs : Array Value} (h : Cells W p t vs) (i : Nat) : W.cell? ⟨p, i, none⟩ = vs[i]? := cell_of_row W p i _ _ (0, 0) h
theorem Cells.free {W : World} {p : Nat} {t : TypeId} {vs : Array Value} (h : Cells W p t vs) (i : Nat) : W.frozen? ⟨p, i, none⟩ = false := by
  unfold Cells at h
  simp [World.frozen?, h]
theorem Cells.set_ {W : World} {p : Nat} {t : TypeId} {vs : Array Value} (h : Cells W p t vs) (i : Nat) (x : Value) : Cells (W.setCell ⟨p, i, none⟩ x) p t (vs.setIfInBounds i x) := by
  unfold Cells at h ⊢
  simp [World.setCell, Array.getElem?_modify, h]
theorem Cells.lt {W : World} {p : Nat} {t : TypeId} {vs : Array Value} (h : Cells W p t vs) : p < W.heap.size := by
  rcases Nat.lt_or_ge p W.heap.size with hlt | hge
  · exact hlt
  · unfold Cells at h; rw [Array.getElem?_eq_none hge] at h; cases h
theorem Cells.below {W W' : World} {p : Nat} {t : TypeId} {vs : Array Value} (h : Cells W p t vs) (hb : Below W.heap.size W W') : Cells W' p t vs := (hb.block p h.lt).trans h
theorem Cells.only {W W' : World} {p g : Nat} {t : TypeId} {vs : Array Value} (h : Cells W p t vs) (hb : Only g W W') (hne : p ≠ g) : Cells W' p t vs := (hb.block p h.lt (fun e => hne (by injection e))).trans h
theorem Cells.far {W : World} {p q : Nat} {t : TypeId} {vs : Array Value} (h : Cells W p t vs) (hne : p ≠ q) (i : Nat) (x : Value) : Cells (W.setCell ⟨q, i, none⟩ x) p t vs := (Below.heap_setCell _ ⟨q, i, none⟩ x p hne).trans h
theorem Cells.new (W : World) (t : TypeId) (vs : Array Value) : Cells (W.alloc (.cells vs t)) W.heap.size t vs := heap_alloc_new W _
end Go.Proofs.YtgljdfblgpdaaaaGreatDoor
