/- Decimal digits: plain mathematics. -/
import Derived.Test.YtaaipcjbmdbndaaDoorNumText
namespace Go.Proofs.YtaaipcjbmdbndaaDoor

/-- The digit that a byte is. -/
def dg (c : UInt8) : Nat := c.toNat - 48
def isDg (c : UInt8) : Prop := 48 ≤ c.toNat ∧ c.toNat ≤ 57
/-- The number that a list of digits denotes, the highest one first. -/
def dnum (l : List UInt8) : Nat := l.foldl (fun a c => 10 * a + dg c) 0
theorem dnum_nil : dnum [] = 0 := rfl
theorem dnum_snoc (l : List UInt8) (c : UInt8) : dnum (l ++ [c]) = 10 * dnum l + dg c := by simp [dnum, List.foldl_append]
theorem dnum_append (l m : List UInt8) : dnum (l ++ m) = dnum l * 10 ^ m.length + dnum m := by
  rcases List.eq_nil_or_concat m with rfl | ⟨m', c, rfl⟩
  · simp [dnum_nil]
  · have ih := dnum_append l m'
    rw [List.concat_eq_append, ← List.append_assoc, dnum_snoc, dnum_snoc, ih, List.length_append, List.length_singleton, Nat.pow_succ, Nat.mul_add, ← Nat.mul_assoc, ← Nat.mul_assoc, Nat.mul_comm 10 (dnum l), Nat.mul_right_comm]
    omega
termination_by m.length
decreasing_by all_goals (subst_vars; simp)
theorem dnum_lt (l : List UInt8) (h : ∀ c ∈ l, isDg c) : dnum l < 10 ^ l.length := by
  rcases List.eq_nil_or_concat l with rfl | ⟨m', c, rfl⟩
  · simp [dnum_nil]
  · have ih := dnum_lt m' (fun x hx => h x (by simp [hx]))
    have hc := h c (by simp)
    unfold isDg at hc
    rw [List.concat_eq_append, dnum_snoc, List.length_append, List.length_singleton, Nat.pow_succ]
    unfold dg
    omega
termination_by l.length
decreasing_by all_goals (subst_vars; simp)
theorem dnum_cons (c : UInt8) (l : List UInt8) : dnum (c :: l) = dg c * 10 ^ l.length + dnum l := by
  have := dnum_append [c] l
  simpa [dnum] using this

/-- Two texts of digits of the same length that denote the same number are the same. -/
theorem dnum_inj : ∀ {l m : List UInt8}, (∀ c ∈ l, isDg c) → (∀ c ∈ m, isDg c) → l.length = m.length → dnum l = dnum m → l = m
  | [], [], _, _, _, _ => rfl
  | c :: l, d :: m, hl, hm, hlen, h => by
    have hlen' : l.length = m.length := by simpa using hlen
    have h1 := dnum_lt l (fun x hx => hl x (List.mem_cons_of_mem _ hx))
    have h2 := dnum_lt m (fun x hx => hm x (List.mem_cons_of_mem _ hx))
    rw [dnum_cons, dnum_cons, hlen'] at h
    rw [hlen'] at h1
    have hp : 0 < 10 ^ m.length := Nat.pow_pos (by decide)
    have e1 : (dg c * 10 ^ m.length + dnum l) / 10 ^ m.length = dg c := by
      rw [Nat.add_comm, Nat.add_mul_div_right _ _ hp, Nat.div_eq_of_lt h1, Nat.zero_add]
    have e2 : (dg d * 10 ^ m.length + dnum m) / 10 ^ m.length = dg d := by
      rw [Nat.add_comm, Nat.add_mul_div_right _ _ hp, Nat.div_eq_of_lt h2, Nat.zero_add]
    have e3 : dg c = dg d := by rw [← e1, ← e2, h]
    have e4 : dnum l = dnum m := by rw [e3] at h; omega
    have hc := hl c List.mem_cons_self
    have hd := hm d List.mem_cons_self
    unfold isDg at hc hd
    unfold dg at e3
    have e5 : c = d := UInt8.toNat_inj.1 (by omega)
    rw [e5, dnum_inj (fun x hx => hl x (List.mem_cons_of_mem _ hx)) (fun x hx => hm x (List.mem_cons_of_mem _ hx)) hlen' e4]

/-- A text of digits without a leading 0. -/
def Plain (l : List UInt8) : Prop := (∀ c ∈ l, isDg c) ∧ (l.head? = some 48 → False)
theorem plain_lower {l : List UInt8} (h : Plain l) (h0 : l ≠ []) : 10 ^ (l.length - 1) ≤ dnum l := by
  cases l with
  | nil => exact absurd rfl h0
  | cons c l =>
    have hc := h.1 c List.mem_cons_self
    have hne : c ≠ 48 := fun e => h.2 (by rw [e]; rfl)
    have : 1 ≤ dg c := by
      unfold isDg at hc; unfold dg
      have : c.toNat ≠ 48 := fun e => hne (UInt8.toNat_inj.1 e)
      omega
    rw [dnum_cons]
    have := Nat.mul_le_mul_right (10 ^ l.length) this
    simp only [List.length_cons, Nat.add_sub_cancel]
    omega
theorem plain_len {l m : List UInt8} (hl : Plain l) (hm : Plain m) (h : dnum l = dnum m) : l.length ≤ m.length := by
  rcases Nat.lt_or_ge m.length l.length with hlt | hge
  · have h0 : l ≠ [] := fun e => by rw [e] at hlt; simp at hlt
    have h1 := plain_lower hl h0
    have h2 := dnum_lt m hm.1
    have h3 : 10 ^ m.length ≤ 10 ^ (l.length - 1) := Nat.pow_le_pow_right (by decide) (by omega)
    omega
  · exact hge
theorem plain_inj {l m : List UInt8} (hl : Plain l) (hm : Plain m) (h : dnum l = dnum m) : l = m :=
  dnum_inj hl.1 hm.1 (Nat.le_antisymm (plain_len hl hm h) (plain_len hm hl h.symm)) h

/-- The blocks of nine digits, the highest one first, each with the number of its digits. -/
def blks : Nat → List UInt8 → List (Nat × Nat)
  | 0, _ => []
  | f + 1, l => if l = [] then [] else (dnum (l.take 9), min 9 l.length) :: blks f (l.drop 9)
/-- What the blocks make of a number. -/
def blkNum (N : Nat) (bs : List (Nat × Nat)) : Nat := bs.foldl (fun a b => a * 10 ^ b.2 + b.1) N
theorem blkNum_append (N : Nat) (a b : List (Nat × Nat)) : blkNum N (a ++ b) = blkNum (blkNum N a) b := by simp [blkNum, List.foldl_append]
theorem blkNum_all : ∀ (f : Nat) (l : List UInt8) (N : Nat), l.length ≤ f → blkNum N (blks f l) = N * 10 ^ l.length + dnum l
  | 0, l, N, h => by
    have : l = [] := List.eq_nil_of_length_eq_zero (by omega)
    subst this; simp [blks, blkNum, dnum_nil]
  | f + 1, l, N, h => by
    unfold blks
    by_cases h0 : l = []
    · subst h0; simp [blkNum, dnum_nil]
    · rw [if_neg h0]
      have hpos : 0 < l.length := List.length_pos_iff.2 h0
      have ih := blkNum_all f (l.drop 9) (N * 10 ^ (min 9 l.length) + dnum (l.take 9)) (by simp; omega)
      have e1 : blkNum N ((dnum (l.take 9), min 9 l.length) :: blks f (l.drop 9)) = blkNum (N * 10 ^ (min 9 l.length) + dnum (l.take 9)) (blks f (l.drop 9)) := rfl
      rw [e1, ih]
      have e2 := dnum_append (l.take 9) (l.drop 9)
      rw [List.take_append_drop] at e2
      rw [e2, Nat.add_mul, Nat.mul_assoc, ← Nat.pow_add]
      have e3 : min 9 l.length + (l.drop 9).length = l.length := by simp; omega
      rw [e3]
      omega
theorem blks_lt : ∀ (f : Nat) (l : List UInt8), (∀ c ∈ l, isDg c) → ∀ b ∈ blks f l, b.1 < 10 ^ b.2 ∧ b.2 ≤ 9 ∧ 0 < b.2
  | 0, _, _, b, hb => by simp [blks] at hb
  | f + 1, l, hl, b, hb => by
    unfold blks at hb
    by_cases h0 : l = []
    · rw [if_pos h0] at hb; simp at hb
    · rw [if_neg h0] at hb
      rcases List.mem_cons.1 hb with rfl | hb
      · have hpos : 0 < l.length := List.length_pos_iff.2 h0
        refine ⟨?_, by simp; omega, by simp; omega⟩
        have := dnum_lt (l.take 9) (fun c hc => hl c (List.mem_of_mem_take hc))
        simpa using this
      · exact blks_lt f (l.drop 9) (fun c hc => hl c (List.mem_of_mem_drop hc)) b hb

/-- The blocks of a number, the lowest one first. -/
def wblks : Nat → Nat → List Nat
  | 0, _ => []
  | f + 1, N => if N = 0 then [] else (N % 1000000000) :: wblks f (N / 1000000000)
theorem wblks_zero (f : Nat) : wblks f 0 = [] := by cases f <;> simp [wblks]
theorem wblks_lt : ∀ (f N : Nat), ∀ b ∈ wblks f N, b < 1000000000
  | 0, _, b, hb => by simp [wblks] at hb
  | f + 1, N, b, hb => by
    unfold wblks at hb
    by_cases h0 : N = 0
    · rw [if_pos h0] at hb; simp at hb
    · rw [if_neg h0] at hb
      rcases List.mem_cons.1 hb with rfl | hb
      · exact Nat.mod_lt _ (by decide)
      · exact wblks_lt f _ b hb
/-- k digits of N, the highest one first. -/
def dgs : Nat → Nat → List UInt8
  | 0, _ => []
  | k + 1, N => dgs k (N / 10) ++ [UInt8.ofNat (48 + N % 10)]
theorem dgs_length : ∀ k N, (dgs k N).length = k
  | 0, _ => rfl
  | k + 1, N => by simp [dgs, dgs_length k]
theorem isDg_of (r : Nat) (h : r < 10) : isDg (UInt8.ofNat (48 + r)) ∧ dg (UInt8.ofNat (48 + r)) = r := by
  unfold isDg dg
  rw [UInt8.toNat_ofNat']
  rw [Nat.mod_eq_of_lt (by omega)]
  omega
theorem dgs_is : ∀ k N, ∀ c ∈ dgs k N, isDg c
  | 0, _, c, hc => by simp [dgs] at hc
  | k + 1, N, c, hc => by
    unfold dgs at hc
    rcases List.mem_append.1 hc with h | h
    · exact dgs_is k _ c h
    · rw [List.mem_singleton.1 h]; exact (isDg_of _ (Nat.mod_lt _ (by decide))).1
theorem dnum_dgs : ∀ k N, dnum (dgs k N) = N % 10 ^ k
  | 0, N => by simp [dgs, dnum_nil, Nat.mod_one]
  | k + 1, N => by
    unfold dgs
    rw [dnum_snoc, dnum_dgs k, (isDg_of _ (Nat.mod_lt _ (by decide))).2, Nat.pow_succ, Nat.mul_comm (10 ^ k) 10]
    have h1 := Nat.mod_mul (x := N) (a := 10) (b := 10 ^ k)
    omega
theorem dgs_add (j k N : Nat) : dgs (j + k) N = dgs j (N / 10 ^ k) ++ dgs k N := by
  induction k generalizing N with
  | zero => simp [dgs]
  | succ k ih =>
    rw [← Nat.add_assoc]
    show dgs (j + k) (N / 10) ++ _ = _
    rw [ih, Nat.div_div_eq_div_mul, Nat.pow_succ, Nat.mul_comm 10, List.append_assoc]
    rfl
end Go.Proofs.YtaaipcjbmdbndaaDoor
