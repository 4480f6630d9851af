/- Print: bytes in memory. -/
import Derived.Test.YtjijifdnhbkjaaaGreatDoorNumParse
import Derived.Laws.BytesArg
namespace Go.Proofs.YtjijifdnhbkjaaaGreatDoor
open Go.RowKit Go.Shelf

theorem info_b : (Tryz.prog.info? 5).map (fun i => (i.zero, i.size, i.bytes)) = some (some (.int .u8 0), 1, 1) := by kernel_rfl
/-- Bytes as cells. -/
def bytesv (L : List UInt8) : Array Value := (L.map fun x => Value.int .u8 (x.toNat : Int)).toArray
/-- Block g is the bytes L. -/
def BBlk (w : World) (g : Nat) (L : List UInt8) : Prop := w.heap[g]? = some (.cells (bytesv L) 5 (0, 0))
def bg (L : List UInt8) (j : Nat) : UInt8 := L.getD j 0
theorem bg_at {L : List UInt8} {j : Nat} (h : j < L.length) : bg L j = L[j] := by simp [bg, List.getD_eq_getElem?_getD, List.getElem?_eq_getElem h]
theorem BBlk.lt {w : World} {g : Nat} {L : List UInt8} (h : BBlk w g L) : g < w.heap.size := by
  rcases Nat.lt_or_ge g w.heap.size with hlt | hge
  · exact hlt
  · unfold BBlk at h; rw [Array.getElem?_eq_none hge] at h; cases h
theorem BBlk.cell {w : World} {g : Nat} {L : List UInt8} (h : BBlk w g L) {i : Nat} (hi : i < L.length) : w.cell? ⟨g, i, none⟩ = some (.int .u8 ((bg L i).toNat : Int)) := by
  rw [cell_of_row w g i _ _ (0, 0) h]
  simp [bytesv, bg, List.getD_eq_getElem?_getD, List.getElem?_eq_getElem hi]
theorem BBlk.free {w : World} {g : Nat} {L : List UInt8} (h : BBlk w g L) (i : Nat) : w.frozen? ⟨g, i, none⟩ = false := by
  unfold BBlk at h
  simp [World.frozen?, h]
theorem BBlk.set_ {w : World} {g : Nat} {L : List UInt8} (h : BBlk w g L) {i : Nat} (x : UInt8) : BBlk (w.setCell ⟨g, i, none⟩ (.int .u8 (x.toNat : Int))) g (L.set i x) := by
  unfold BBlk at h ⊢
  simp [World.setCell, Array.getElem?_modify, h, bytesv, List.map_set]
theorem BBlk.only {w w' : World} {g g' : Nat} {L : List UInt8} (h : BBlk w g L) (hb : Only g' w w') (hne : g ≠ g') : BBlk w' g L := (hb.block g h.lt (fun e => hne (by injection e))).trans h
theorem BBlk.below {w w' : World} {g : Nat} {L : List UInt8} (h : BBlk w g L) (hb : Below w.heap.size w w') : BBlk w' g L := (hb.block g h.lt).trans h
theorem BBlk.new (w : World) (L : List UInt8) : BBlk (w.alloc (.cells (bytesv L) 5)) w.heap.size L := heap_alloc_new w _
def bzer (n : Nat) : List UInt8 := List.replicate n 0
theorem bzer_length (n : Nat) : (bzer n).length = n := by simp [bzer]
theorem run_mkb (N : Int) (n : Nat) (hN : N = n) (hn : n ≤ 4000000) (w : World) :
    (Instr.makeSlice 74 (.int .i64 N) (.int .i64 N)).run Tryz.prog w = .ok (.slice (some ⟨w.heap.size, 0, none⟩) n n) (w.alloc (.cells (bytesv (bzer n)) 5)) := by
  subst hN
  obtain ⟨i, hi, hz, hs, hb⟩ := info_parts info_b
  have h := run_make (P := Tryz.prog) w 74 5 i (.int .u8 0) Tryz.underlying74 hi hz .i64 .i64 n n (by omega) (by omega) (by rw [hb]; omega) (by omega)
  rw [Int.toNat_natCast, hs, Nat.mul_one] at h
  rw [h]
  have e : madeCells (Value.int .u8 0).cells n = bytesv (bzer n) := by
    apply Array.ext
    · simp [bytesv, bzer_length, size_madeCells]
    · intro j h1 h2
      simp [madeCells, bytesv, bzer, Value.cells, Nat.mod_one]
  rw [e]
/-- string(b) of a part of such a block. -/
theorem run_bstr {w : World} {g : Nat} {L : List UInt8} (h : BBlk w g L) (o n c : Nat) (hn : o + n = L.length) :
    (convert 74 9 (.slice (some ⟨g, o, none⟩) n c)).run Tryz.prog w = .ok (.string ⟨(L.drop o).toArray⟩) w := by
  have hd : ((L.drop o).map fun x => (x.toNat : Int)).length = n := by simp; omega
  rw [run_convert_bytes_arg w 74 5 Tryz.underlying74 Tryz.underlying5 g o n c ((L.drop o).map fun x => (x.toNat : Int)) hd (fun i hi => ?_) _ Tryz.underlying9]
  · have e : strOfNums ((L.drop o).map fun x => (x.toNat : Int)) = ⟨(L.drop o).toArray⟩ := by
      unfold strOfNums
      rw [List.map_map]
      have : ((fun n : Int => UInt8.ofNat n.toNat) ∘ fun x : UInt8 => (x.toNat : Int)) = id := by
        funext x; simp
      rw [this, List.map_id]
    rw [e]
  · rw [h.cell (by omega)]
    have hlt : i < (L.drop o).length := by simp; omega
    simp [bg, List.getD_eq_getElem?_getD, List.getElem?_drop, hlt]
    rw [List.getElem?_eq_getElem (by omega)]
    simp

/-- A box of an int. -/
def IBox (W : World) (p : Nat) (z : Int) : Prop := W.heap[p]? = some (.cells #[.int .i64 z] 3 (0, 0))
theorem IBox.cell {W : World} {p : Nat} {z : Int} (h : IBox W p z) : W.cell? ⟨p, 0, none⟩ = some (.int .i64 z) := by rw [cell_of_row W p 0 _ _ (0, 0) h]; rfl
theorem IBox.free {W : World} {p : Nat} {z : Int} (h : IBox W p z) (i : Nat) : W.frozen? ⟨p, i, none⟩ = false := by
  unfold IBox at h; simp [World.frozen?, h]
theorem IBox.set_ {W : World} {p : Nat} {z : Int} (h : IBox W p z) (x : Int) : IBox (W.setCell ⟨p, 0, none⟩ (.int .i64 x)) p x := by
  unfold IBox at h ⊢
  simp [World.setCell, Array.getElem?_modify, h]
theorem IBox.lt {W : World} {p : Nat} {z : Int} (h : IBox W p z) : p < W.heap.size := by
  rcases Nat.lt_or_ge p W.heap.size with hlt | hge
  · exact hlt
  · unfold IBox at h; rw [Array.getElem?_eq_none hge] at h; cases h
theorem IBox.only {W W' : World} {p g : Nat} {z : Int} (h : IBox W p z) (hb : Only g W W') (hne : p ≠ g) : IBox W' p z := (hb.block p h.lt (fun e => hne (by injection e))).trans h
theorem IBox.below {W W' : World} {p : Nat} {z : Int} (h : IBox W p z) (hb : Below W.heap.size W W') : IBox W' p z := (hb.block p h.lt).trans h
theorem IBox.new (W : World) (z : Int) : IBox (W.alloc (.cells #[.int .i64 z] 3)) W.heap.size z := heap_alloc_new W _
/-- A box of a slice of bytes. -/
def LBox (W : World) (p : Nat) (v : Value) : Prop := W.heap[p]? = some (.cells #[v] 74 (0, 0))
theorem LBox.cell {W : World} {p : Nat} {v : Value} (h : LBox W p v) : W.cell? ⟨p, 0, none⟩ = some v := by rw [cell_of_row W p 0 _ _ (0, 0) h]; rfl
theorem LBox.lt {W : World} {p : Nat} {v : Value} (h : LBox W p v) : p < W.heap.size := by
  rcases Nat.lt_or_ge p W.heap.size with hlt | hge
  · exact hlt
  · unfold LBox at h; rw [Array.getElem?_eq_none hge] at h; cases h
theorem LBox.only {W W' : World} {p g : Nat} {v : Value} (h : LBox W p v) (hb : Only g W W') (hne : p ≠ g) : LBox W' p v := (hb.block p h.lt (fun e => hne (by injection e))).trans h
theorem LBox.below {W W' : World} {p : Nat} {v : Value} (h : LBox W p v) (hb : Below W.heap.size W W') : LBox W' p v := (hb.block p h.lt).trans h
theorem LBox.new (W : World) (v : Value) : LBox (W.alloc (.cells #[v] 74)) W.heap.size v := heap_alloc_new W _

/- ### Digits -/
/-- The digits of the blocks that have come. -/
def dof (bs : List Nat) : List UInt8 := bs.foldl (fun D b => dgs 9 b ++ D) []
theorem dof_snoc (bs : List Nat) (b : Nat) : dof (bs ++ [b]) = dgs 9 b ++ dof bs := by simp [dof, List.foldl_append]
theorem dof_length (bs : List Nat) : (dof bs).length = 9 * bs.length := by
  rcases List.eq_nil_or_concat bs with rfl | ⟨m', b, rfl⟩
  · rfl
  · have := dof_length m'
    rw [List.concat_eq_append, dof_snoc, List.length_append, dgs_length, this]
    simp; omega
termination_by bs.length
decreasing_by all_goals (subst_vars; simp)
theorem dof_fold (bs : List Nat) (D : List UInt8) : bs.foldl (fun D b => dgs 9 b ++ D) D = dof bs ++ D := by
  rcases List.eq_nil_or_concat bs with rfl | ⟨m', b, rfl⟩
  · rfl
  · have := dof_fold m' D
    rw [List.concat_eq_append, dof_snoc, List.foldl_append, this]
    simp
termination_by bs.length
decreasing_by all_goals (subst_vars; simp)
theorem dof_cons (b : Nat) (bs : List Nat) : dof (b :: bs) = dof bs ++ dgs 9 b := by
  have := dof_fold bs (dgs 9 b)
  show bs.foldl (fun D b => dgs 9 b ++ D) (dgs 9 b ++ []) = _
  rw [List.append_nil, this]
theorem dgs_mod (k N : Nat) : dgs k (N % 10 ^ k) = dgs k N := by
  refine dnum_inj (dgs_is _ _) (dgs_is _ _) (by rw [dgs_length, dgs_length]) ?_
  rw [dnum_dgs, dnum_dgs, Nat.mod_mod]
theorem dof_wblks : ∀ (f N : Nat), N ≤ f → dof (wblks f N) = dgs (9 * (wblks f N).length) N
  | 0, N, h => by simp [wblks, dof, dgs]
  | f + 1, N, h => by
    unfold wblks
    by_cases h0 : N = 0
    · rw [if_pos h0]; rfl
    · rw [if_neg h0, dof_cons, dof_wblks f (N / 1000000000) (by omega)]
      have e := dgs_mod 9 N
      rw [show (10 : Nat) ^ 9 = 1000000000 from rfl] at e
      rw [e, List.length_cons, show 9 * ((wblks f (N / 1000000000)).length + 1) = 9 * (wblks f (N / 1000000000)).length + 9 by omega, dgs_add]
theorem wblks_lower : ∀ (f N : Nat), N ≤ f → 0 < N → 10 ^ (9 * ((wblks f N).length - 1)) ≤ N
  | 0, N, h, h0 => by omega
  | f + 1, N, h, h0 => by
    unfold wblks
    rw [if_neg (by omega), List.length_cons, Nat.add_sub_cancel]
    rcases Nat.eq_zero_or_pos (N / 1000000000) with h1 | h1
    · rw [h1, wblks_zero]; simp; omega
    · have ih := wblks_lower f (N / 1000000000) (by omega) h1
      have hpos : 0 < (wblks f (N / 1000000000)).length := by
        cases f with
        | zero => omega
        | succ f => unfold wblks; rw [if_neg (by omega)]; simp
      have e : 10 ^ (9 * (wblks f (N / 1000000000)).length) = 10 ^ (9 * ((wblks f (N / 1000000000)).length - 1)) * 1000000000 := by
        rw [show 9 * (wblks f (N / 1000000000)).length = 9 * ((wblks f (N / 1000000000)).length - 1) + 9 by omega, Nat.pow_add]
      rw [e]
      have := Nat.mul_le_mul_right 1000000000 ih
      omega
theorem wblks_len {l : List Nat} (hl : ∀ x ∈ l, x < 4294967296) (h0 : 0 < val l) : 9 * (wblks (val l) (val l)).length ≤ 10 * l.length + 8 := by
  have h1 := wblks_lower (val l) (val l) (Nat.le_refl _) h0
  have h2 := val_lt hl
  have h3 : BB l.length ≤ 10 ^ (10 * l.length) := by
    unfold BB
    rw [Nat.pow_mul]
    exact Nat.pow_le_pow_left (by decide) _
  have h4 : 9 * ((wblks (val l) (val l)).length - 1) < 10 * l.length := by
    rcases Nat.lt_or_ge (9 * ((wblks (val l) (val l)).length - 1)) (10 * l.length) with h | h
    · exact h
    · have := Nat.pow_le_pow_right (show 0 < 10 by decide) h
      omega
  omega
end Go.Proofs.YtjijifdnhbkjaaaGreatDoor
