import Derived.RangeFuncKeeps
import Derived.RangeFuncNested
import Derived.Shelf.RegionOpen
import Derived.OwnWalkIn
import Derived.TacticsInMore
import Derived.LoopNIn
import Derived.LoopIn
import Derived.Outline
import Derived.Test.YtgljdfblgpdaaaaGreatDoorPbNumRef
set_option linter.unusedSimpArgs false
set_option linter.unusedVariables false
set_option maxRecDepth 100000
set_option maxHeartbeats 4000000
namespace Go.Proofs.YtgljdfblgpdaaaaGreatDoor
open Go.RowKit
variable {A : Option Addr} {S l : List Nat} {W W' : World} {base c i k n p x : Nat} {v : Value}
def byt (s : ByteArray) (i : Nat) : Nat := (s.data.getD i 0).toNat
def digs (s : ByteArray) : Bool := decide (s.size ≠ 0) && decide (∀ i, i < s.size → 48 ≤ byt s i ∧ byt s i ≤ 57)
theorem byt_at {s : ByteArray} (h : i < s.size) : byt s i = s[i].toNat := by
 unfold byt
 rw [Array.getD_eq_getD_getElem?, Array.getElem?_eq_getElem h]; rfl
theorem m00da0 {P : Prop} (h : P := by
 have hb := byt_at hlt
 have : digs s = false := by
  unfold digs
  rw [Bool.and_eq_false_iff]; right
  exact decide_eq_false (fun h => by have := h i hlt; omega)
 rw [this]) : P := h
theorem isDigits_any (s : ByteArray) (w : World) (hn : s.size ≤ 1000000) :
  Calls Tryz.prog 130 #[.string s] w fun e w' => e = .returned (.bool (digs s)) ∧ w' = w := by
 go_enter Tryz.func130, Tryz.ntmps130
 go_wp2_with fail
 go_loopw [6] (fun iv wr => ∃ i : Nat, iv = .int .i64 (i : Int) ∧ i ≤ s.size ∧ (∀ j, j < i → 48 ≤ byt s j ∧ byt s j ≤ 57) ∧ wr = w) (fun iv _ => s.size - (intOf iv).toNat)
 case atStart => exact ⟨0, rfl, Nat.zero_le _, fun j hj => absurd hj (by omega), rfl⟩
 case round =>
  obtain ⟨i, rfl, hi, hpre, hwr⟩ := hrel
  rw [hwr]
  have HP := Hi hpre
  clear hpre
  by_cases hlt : i < s.size
  ·have hlti : (i : Int) < (s.size : Int) := by omega
   go_wp2_with fail
   ·go_ret
    refine ⟨ret_bool ?_, rfl⟩
    rename_i h1 h2
    exact m00da0
   ·go_roundw
    case rel =>
     refine ⟨i + 1, by go_num, by omega, fun j hj => ?_, trivial⟩
     rcases Nat.lt_or_ge j i with h | h
     ·exact HP.out j h
     ·rename_i h2
      have hb := byt_at hlt
      rw [show j = i from by omega, hb]; omega
    case measure => simp [intOf]; omega
   ·go_ret
    refine ⟨ret_bool ?_, rfl⟩
    rename_i h1
    exact m00da0
  ·have hnlt : ¬ (i : Int) < (s.size : Int) := by omega
   go_wp2_with fail
   go_ret
   refine ⟨ret_bool ?_, rfl⟩
   have hd : decide (∀ i, i < s.size → 48 ≤ byt s i ∧ byt s i ≤ 57) = true := decide_eq_true (fun j hj => HP.out j (by omega))
   unfold digs
   rw [hd, Bool.and_true]
   rw [ByteArray.toList_eq]
   have h0 : s.size = s.data.toList.length := rfl
   rw [h0]
   cases s.data.toList <;> simp
variable {A : Option Addr} {S l : List Nat} {W W' : World} {base c i k n p x : Nat} {v : Value}
def dg (c : UInt8) : Nat := c.toNat - 48
def isDg (c : UInt8) : Prop := 48 ≤ c.toNat ∧ c.toNat ≤ 57
def dnum (l : List UInt8) : Nat := l.foldl (fun a c => 10 * a + dg c) 0
theorem dnum_nil : dnum [] = 0 := rfl
theorem dnum_snoc (l : List UInt8) (c : UInt8) : dnum (l ++ [c]) = 10 * dnum l + dg c := by simp [dnum, List.foldl_append]
theorem dnum_append (l m : List UInt8) : dnum (l ++ m) = dnum l * 10 ^ m.length + dnum m := by
 rcases List.eq_nil_or_concat m with rfl | ⟨m', c, rfl⟩
 ·simp [dnum_nil]
 ·have ih := dnum_append l m'
  rw [List.concat_eq_append, ← List.append_assoc, dnum_snoc, dnum_snoc, ih, List.length_append, List.length_singleton, Nat.pow_succ, Nat.mul_add, ← Nat.mul_assoc, ← Nat.mul_assoc, Nat.mul_comm 10 (dnum l), Nat.mul_right_comm]
  omega
termination_by m.length
decreasing_by all_goals (subst_vars; simp)
theorem dnum_lt (l : List UInt8) (h : ∀ c ∈ l, isDg c) : dnum l < 10 ^ l.length := by
 rcases List.eq_nil_or_concat l with rfl | ⟨m', c, rfl⟩
 ·simp [dnum_nil]
 ·have ih := dnum_lt m' (fun x hx => h x (by simp [hx]))
  have hc := h c (by simp)
  unfold isDg at hc
  rw [List.concat_eq_append, dnum_snoc, List.length_append, List.length_singleton, Nat.pow_succ]
  unfold dg
  omega
termination_by l.length
decreasing_by all_goals (subst_vars; simp)
theorem dnum_cons (c : UInt8) (l : List UInt8) : dnum (c :: l) = dg c * 10 ^ l.length + dnum l := by
 have := dnum_append [c] l
 simpa [dnum] using this
theorem dnum_inj : ∀ {l m : List UInt8}, (∀ c ∈ l, isDg c) → (∀ c ∈ m, isDg c) → l.length = m.length → dnum l = dnum m → l = m
 | [], [], _, _, _, _ => rfl
 | c :: l, d :: m, hl, hm, hlen, h => by
  have hlen' : l.length = m.length := by simpa using hlen
  have h1 := dnum_lt l (fun x hx => hl x (List.mem_cons_of_mem _ hx))
  have h2 := dnum_lt m (fun x hx => hm x (List.mem_cons_of_mem _ hx))
  rw [dnum_cons, dnum_cons, hlen'] at h
  rw [hlen'] at h1
  have hp : 0 < 10 ^ m.length := Nat.pow_pos (by decide)
  have e1 : (dg c * 10 ^ m.length + dnum l) / 10 ^ m.length = dg c := by
   rw [Nat.add_comm, Nat.add_mul_div_right _ _ hp, Nat.div_eq_of_lt h1, Nat.zero_add]
  have e2 : (dg d * 10 ^ m.length + dnum m) / 10 ^ m.length = dg d := by
   rw [Nat.add_comm, Nat.add_mul_div_right _ _ hp, Nat.div_eq_of_lt h2, Nat.zero_add]
  have e3 : dg c = dg d := by rw [← e1, ← e2, h]
  have e4 : dnum l = dnum m := by rw [e3] at h; omega
  have hc := hl c List.mem_cons_self
  have hd := hm d List.mem_cons_self
  unfold isDg at hc hd
  unfold dg at e3
  have e5 : c = d := UInt8.toNat_inj.1 (by omega)
  rw [e5, dnum_inj (fun x hx => hl x (List.mem_cons_of_mem _ hx)) (fun x hx => hm x (List.mem_cons_of_mem _ hx)) hlen' e4]
def Plain (l : List UInt8) : Prop := (∀ c ∈ l, isDg c) ∧ (l.head? = some 48 → False)
theorem plain_lower {l : List UInt8} (h : Plain l) (h0 : l ≠ []) : 10 ^ (l.length - 1) ≤ dnum l := by
 cases l with
 | nil => exact absurd rfl h0
 | cons c l =>
  have hc := h.1 c List.mem_cons_self
  have hne : c ≠ 48 := fun e => h.2 (by rw [e]; rfl)
  have : 1 ≤ dg c := by
   unfold isDg at hc; unfold dg
   have : c.toNat ≠ 48 := fun e => hne (UInt8.toNat_inj.1 e)
   omega
  rw [dnum_cons]
  have := Nat.mul_le_mul_right (10 ^ l.length) this
  simp only [List.length_cons, Nat.add_sub_cancel]
  omega
theorem plain_len {l m : List UInt8} (hl : Plain l) (hm : Plain m) (h : dnum l = dnum m) : l.length ≤ m.length := by
 rcases Nat.lt_or_ge m.length l.length with hlt | hge
 ·have h0 : l ≠ [] := fun e => by rw [e] at hlt; simp at hlt
  have h1 := plain_lower hl h0
  have h2 := dnum_lt m hm.1
  have h3 : 10 ^ m.length ≤ 10 ^ (l.length - 1) := Nat.pow_le_pow_right (by decide) (by omega)
  omega
 ·exact hge
theorem plain_inj {l m : List UInt8} (hl : Plain l) (hm : Plain m) (h : dnum l = dnum m) : l = m :=
 dnum_inj hl.1 hm.1 (Nat.le_antisymm (plain_len hl hm h) (plain_len hm hl h.symm)) h
def blks : Nat → List UInt8 → List (Nat × Nat)
 | 0, _ => []
 | f + 1, l => if l = [] then [] else (dnum (l.take 9), min 9 l.length) :: blks f (l.drop 9)
def blkNum (N : Nat) (bs : List (Nat × Nat)) : Nat := bs.foldl (fun a b => a * 10 ^ b.2 + b.1) N
theorem blkNum_append (N : Nat) (a b : List (Nat × Nat)) : blkNum N (a ++ b) = blkNum (blkNum N a) b := by simp [blkNum, List.foldl_append]
theorem blkNum_all : ∀ (f : Nat) (l : List UInt8) (N : Nat), l.length ≤ f → blkNum N (blks f l) = N * 10 ^ l.length + dnum l
 | 0, l, N, h => by
  have : l = [] := List.eq_nil_of_length_eq_zero (by omega)
  subst this; simp [blks, blkNum, dnum_nil]
 | f + 1, l, N, h => by
  unfold blks
  by_cases h0 : l = []
  ·subst h0; simp [blkNum, dnum_nil]
  ·rw [if_neg h0]
   have hpos : 0 < l.length := List.length_pos_iff.2 h0
   have ih := blkNum_all f (l.drop 9) (N * 10 ^ (min 9 l.length) + dnum (l.take 9)) (by simp; omega)
   have e1 : blkNum N ((dnum (l.take 9), min 9 l.length) :: blks f (l.drop 9)) = blkNum (N * 10 ^ (min 9 l.length) + dnum (l.take 9)) (blks f (l.drop 9)) := rfl
   rw [e1, ih]
   have e2 := dnum_append (l.take 9) (l.drop 9)
   rw [List.take_append_drop] at e2
   rw [e2, Nat.add_mul, Nat.mul_assoc, ← Nat.pow_add]
   have e3 : min 9 l.length + (l.drop 9).length = l.length := by simp; omega
   rw [e3]
   omega
theorem blks_lt : ∀ (f : Nat) (l : List UInt8), (∀ c ∈ l, isDg c) → ∀ b ∈ blks f l, b.1 < 10 ^ b.2 ∧ b.2 ≤ 9 ∧ 0 < b.2
 | 0, _, _, b, hb => by simp [blks] at hb
 | f + 1, l, hl, b, hb => by
  unfold blks at hb
  by_cases h0 : l = []
  ·rw [if_pos h0] at hb; simp at hb
  ·rw [if_neg h0] at hb
   rcases List.mem_cons.1 hb with rfl | hb
   ·have hpos : 0 < l.length := List.length_pos_iff.2 h0
    refine ⟨?_, by simp; omega, by simp; omega⟩
    have := dnum_lt (l.take 9) (fun c hc => hl c (List.mem_of_mem_take hc))
    simpa using this
   ·exact blks_lt f (l.drop 9) (fun c hc => hl c (List.mem_of_mem_drop hc)) b hb
def wblks : Nat → Nat → List Nat
 | 0, _ => []
 | f + 1, N => if N = 0 then [] else (N % 1000000000) :: wblks f (N / 1000000000)
theorem wblks_zero (f : Nat) : wblks f 0 = [] := by cases f <;> simp [wblks]
theorem wblks_lt : ∀ (f N : Nat), ∀ b ∈ wblks f N, b < 1000000000
 | 0, _, b, hb => by simp [wblks] at hb
 | f + 1, N, b, hb => by
  unfold wblks at hb
  by_cases h0 : N = 0
  ·rw [if_pos h0] at hb; simp at hb
  ·rw [if_neg h0] at hb
   rcases List.mem_cons.1 hb with rfl | hb
   ·exact Nat.mod_lt _ (by decide)
   ·exact wblks_lt f _ b hb
def dgs : Nat → Nat → List UInt8
 | 0, _ => []
 | k + 1, N => dgs k (N / 10) ++ [UInt8.ofNat (48 + N % 10)]
theorem dgs_length : ∀ k N, (dgs k N).length = k
 | 0, _ => rfl
 | k + 1, N => by simp [dgs, dgs_length k]
theorem isDg_of (r : Nat) (h : r < 10) : isDg (UInt8.ofNat (48 + r)) ∧ dg (UInt8.ofNat (48 + r)) = r := by
 unfold isDg dg
 rw [UInt8.toNat_ofNat']
 rw [Nat.mod_eq_of_lt (by omega)]
 omega
theorem dgs_is : ∀ k N, ∀ c ∈ dgs k N, isDg c
 | 0, _, c, hc => by simp [dgs] at hc
 | k + 1, N, c, hc => by
  unfold dgs at hc
  rcases List.mem_append.1 hc with h | h
  ·exact dgs_is k _ c h
  ·rw [List.mem_singleton.1 h]; exact (isDg_of _ (Nat.mod_lt _ (by decide))).1
theorem dnum_dgs : ∀ k N, dnum (dgs k N) = N % 10 ^ k
 | 0, N => by simp [dgs, dnum_nil, Nat.mod_one]
 | k + 1, N => by
  unfold dgs
  rw [dnum_snoc, dnum_dgs k, (isDg_of _ (Nat.mod_lt _ (by decide))).2, Nat.pow_succ, Nat.mul_comm (10 ^ k) 10]
  have h1 := Nat.mod_mul (x := N) (a := 10) (b := 10 ^ k)
  omega
theorem dgs_add (j k N : Nat) : dgs (j + k) N = dgs j (N / 10 ^ k) ++ dgs k N := by
 induction k generalizing N with
 | zero => simp [dgs]
 | succ k ih =>
  rw [← Nat.add_assoc]
  show dgs (j + k) (N / 10) ++ _ = _
  rw [ih, Nat.div_div_eq_div_mul, Nat.pow_succ, Nat.mul_comm 10, List.append_assoc]
  rfl
open Go.RowKit
variable {A : Option Addr} {S l : List Nat} {W W' : World} {base c i k n p x : Nat} {v : Value}
def GivesAll {α : Type} (F : Fence) (n : Nat) (P : Program) (g : Nat) (lb : Array Value) (encs : α → Array Value) (Tn Kp : World → World → Prop) (xs : List α) (W : World) : Prop :=
 ∀ (l : Nat) (J : List α → World → Prop), (∀ s A B, J s A → Tn A B → J s B) →
  (∀ pre x suf, xs = pre ++ x :: suf → ∀ W1, J pre W1 → YieldAt F (n - 1) P l (encs x) W1 fun e W' => e = .returned (.bool true) ∧ J (pre ++ [x]) W' ∧ Kp W1 W') →
  J [] W →
  CallsIn F n P g (#[.func (.yield l) #[] #[]] ++ lb) W fun e W' => (∃ v, e = .returned v) ∧ J xs W'
def allPost {α : Type} (h : Nat) (Kp : World → World → Prop) (I : List α → World → Prop) (xs : List α) (W : World) : Exit → Act → World → Prop
 | .normal, _, W' => (W'.heap[h]? = W.heap[h]? ∧ W'.heap[h + 1]? = W.heap[h + 1]?) ∧ Kp W W' ∧ I xs W'
 | _, _, _ => False
theorem range_all {α : Type} {F : Fence} {P : Program} {g : Operand} {ps : Array Tmp} {assign body : Code} {Q : Exit → Act → World → Prop} {a : Act} {w : World}
  (hro : F.round = none) (h1 : 1 ≤ n) {gf : Nat} {lb : Array Value} (hg : a.eval g = .func (.func gf) #[] lb) (hFg : F.fn gf) (eg : ∀ args w, (callFunc gf args).run P w = .ok (.enter gf args) w)
  {encs : α → Array Value} {Tn Kp : World → World → Prop} {xs : List α}
  (hseq : ∀ W, Below w.heap.size w W → W.heap.size = w.heap.size + 2 → GivesAll F (n - 1) P gf lb encs Tn Kp xs W)
  (hps : ∀ x, (encs x).size = ps.size)
  (hT : ∀ A B, w.heap.size + 1 < A.heap.size → Tn A B → B.heap[w.heap.size]? = A.heap[w.heap.size]? ∧ B.heap[w.heap.size + 1]? = A.heap[w.heap.size + 1]?)
  (hKt : ∀ {A B C : World}, Kp A B → Kp B C → Kp A C) (hKb : ∀ (W : World) (o : Obj), Kp W (W.putObj (w.heap.size + 1) o))
  (I : List α → World → Prop) (hI : ∀ s A B, I s A → Tn A B → I s B)
  (hIb : ∀ s A o, I s A → w.heap.size + 1 < A.heap.size → I s (A.putObj (w.heap.size + 1) o))
  (h0 : ∀ W, Below w.heap.size w W → I [] W) (a₁ : α → Act)
  (hassign : ∀ (l : Nat) (x : α) (W : World) (K : Act → World → Prop), K (a₁ x) W →
   assign.wpIn (F.inRound l) (n - 1 - 1) P (Exit.then K (fun _ _ _ => False)) { tmps := (ps.zip (encs x)).foldl (fun t (p, v) => t.setIfInBounds p v) a.tmps, defers := [] } W)
  (hbody : ∀ (l : Nat) (pre : List α) (x : α) (suf : List α), xs = pre ++ x :: suf → ∀ W : World, I pre W → w.heap.size + 1 < W.heap.size → body.wpIn (F.inRound l) (n - 1 - 1) P (allPost w.heap.size Kp I (pre ++ [x]) W) (a₁ x) W)
  (hdone : ∀ (W : World), I xs W → W.heap[w.heap.size]? = some (.deferred (some [])) → Q .normal { a with defers := { target := .collected w.heap.size, args := #[] } :: a.defers } W) :
  (Code.rangeFunc g ps assign body).wpIn F n P Q a w := by
 refine wpIn_rangeFunc ?_
 intro fn hfn
 rw [hro]
 obtain ⟨rec, hrec⟩ : ∃ rec : LoopState → Loop, rec = fun st => { state := st, pending := none, fn, tmps := a.tmps, params := ps, assign, body, defers := w.heap.size } := ⟨_, rfl⟩
 obtain ⟨W1, hW1⟩ : ∃ W1, (w.alloc (.deferred (some []))).alloc (.loop (rec .ready)) = W1 := ⟨_, rfl⟩
 have hsz : W1.heap.size = w.heap.size + 2 := by rw [← hW1]; simp
 have hL1 : W1.heap[w.heap.size + 1]? = some (.loop (rec .ready)) := by
  rw [← hW1]; have := World.alloc_heap_new (w.alloc (.deferred (some []))) (.loop (rec .ready)); rwa [World.size_alloc] at this
 have hD1 : W1.heap[w.heap.size]? = some (.deferred (some [])) := by
  rw [← hW1]; exact (Below.heap_alloc _ _ _ (by simp)).trans (World.alloc_heap_new w _)
 have hb1 : Below w.heap.size w W1 := by
  rw [← hW1]; exact ((Below.refl _ w).alloc (Nat.le_refl _) _).alloc (by simp) _
 refine ⟨w.heap.size + 1, [{ target := .collected w.heap.size, args := #[] }], W1, { target := .fn (.func gf) lb, args := #[.func (.yield (w.heap.size + 1)) #[] #[]] }, W1, gf,
  #[.func (.yield (w.heap.size + 1)) #[] #[]] ++ lb, W1, ?_, ?_, ?_, ?_, fun _ => h1, ?_⟩
 ·rw [← hW1, hrec]; exact run_enterLoop_outer _ _ _ _ _
 ·simp only [resolve, hg]
  simp [go_sem]
 ·intro f' hf'; simp [Target.leads] at hf'; subst hf'; exact hFg
 ·simp [invoke, go_sem, eg]
 ·have hlt : ∀ (W : World) (o : Obj), W.heap[w.heap.size + 1]? = some o → w.heap.size + 1 < W.heap.size := fun W o h => (Array.getElem?_eq_some_iff.1 h).1
  refine (hseq W1 hb1 hsz (w.heap.size + 1)
   (fun pre W => I pre W ∧ W.heap[w.heap.size + 1]? = some (.loop (rec .ready)) ∧ W.heap[w.heap.size]? = some (.deferred (some [])))
   (fun s A B hs hAB => by
    obtain ⟨e0, e1⟩ := hT A B (hlt A _ hs.2.1) hAB
    exact ⟨hI s A B hs.1 hAB, e1.trans hs.2.1, e0.trans hs.2.2⟩)
   ?_ ⟨h0 W1 hb1, hL1, hD1⟩).mono ?_
  ·rintro pre x suf hx W ⟨hi, hl, hk⟩
   have hl0 := hlt W _ hl
   have hy := run_yield (P := P) (args := encs x) hl (by rw [hrec]; exact hps x)
   rw [hrec] at hy
   refine ⟨fn, _, assign, body, hy, roundIn_of_wpIn hfn (hassign _ x W _ ⟨_, run_beginRound hl (by rw [hrec]), ?_⟩)⟩
   obtain ⟨W2, hW2⟩ : ∃ W2, W2 = W.putObj (w.heap.size + 1) (.loop { rec .ready with state := .busy }) := ⟨_, rfl⟩
   have hl2 : W2.heap[w.heap.size + 1]? = some (.loop { rec .ready with state := .busy }) := by rw [hW2]; exact World.putObj_heap_same hl0
   have hk2 : W2.heap[w.heap.size]? = some (.deferred (some [])) := by rw [hW2]; exact (World.putObj_heap_other (by omega)).trans hk
   have hw2 : Kp W W2 := by rw [hW2]; exact hKb _ _
   have hi2 : I pre W2 := by rw [hW2]; exact hIb _ _ _ hi hl0
   rw [← hW2]
   refine wpIn_mono (hbody _ pre x suf hx W2 hi2 (hlt W2 _ hl2)) ?_
   rintro e a3 W3 hp
   cases e with
   | normal =>
    obtain ⟨⟨k0, k1⟩, hkp3, hi3⟩ := hp
    have hl3 := k1.trans hl2
    have hr := run_endRound (P := P) none hl3
    refine ⟨_, _, hr, rfl, ⟨hIb _ _ _ hi3 (hlt W3 _ hl3), ?_, ?_⟩, hKt (hKt hw2 hkp3) (hKb _ _)⟩
    ·rw [World.putObj_heap_same (hlt W3 _ hl3), hrec]; rfl
    ·exact (World.putObj_heap_other (by omega)).trans (k0.trans hk2)
   | ret => exact hp.elim
   | exit id => exact hp.elim
   | goto t => exact hp.elim
   | panic ch => exact hp.elim
   | outgrown => exact hp.elim
  ·rintro e W2 ⟨⟨v, rfl⟩, hi, hl, hk⟩
   exact ⟨none, _, by have := run_endLoop (P := P) hl (by rw [hrec]; simp); rw [hrec] at this; exact this, hdone _ (hIb _ _ _ hi (hlt W2 _ hl)) ((World.putObj_heap_other (by omega)).trans hk)⟩
open Go.RowKit Go.Shelf
variable {A : Option Addr} {S l : List Nat} {W W' : World} {base c i k n p x : Nat} {v : Value}
attribute [local go_sem] Oper.semAt_some
def SBox (W : World) (p : Nat) (v : Value) : Prop := W.heap[p]? = some (.cells #[v] 9 (0, 0))
theorem SBox.cell (h : SBox W p v) : W.cell? ⟨p, 0, none⟩ = some v := by rw [cell_of_row W p 0 _ _ (0, 0) h]; rfl
theorem SBox.free (h : SBox W p v) (i : Nat) : W.frozen? ⟨p, i, none⟩ = false := by
 unfold SBox at h; simp [World.frozen?, h]
theorem SBox.set_ (h : SBox W p v) (x : Value) : SBox (W.setCell ⟨p, 0, none⟩ x) p x := by
 unfold SBox at h ⊢
 simp [World.setCell, Array.getElem?_modify, h]
theorem SBox.lt (h : SBox W p v) : p < W.heap.size := by
 rcases Nat.lt_or_ge p W.heap.size with hlt | hge
 ·exact hlt
 ·unfold SBox at h; rw [Array.getElem?_eq_none hge] at h; cases h
theorem SBox.below (h : SBox W p v) (hb : Below W.heap.size W W') : SBox W' p v := (hb.block p h.lt).trans h
theorem SBox.new (W : World) (v : Value) : SBox (W.alloc (.cells #[v] 9)) W.heap.size v := heap_alloc_new W _
def strLeft (B : Nat) (W : World) : Nat := match W.cell? ⟨B, 0, none⟩ with | some (.string t) => t.size | _ => 0
theorem SBox.left {t : ByteArray} (h : SBox W p (.string t)) : strLeft p W = t.size := by unfold strLeft; rw [h.cell]
def KpB (B : Nat) (A C : World) : Prop := C.heap[B]? = A.heap[B]?
theorem ext_list (t : ByteArray) (a : Nat) : (t.extract a t.size).data.toList = t.data.toList.drop a := by
 rw [ByteArray.data_extract, Array.toList_extract]
 rw [List.extract_eq_take_drop]
 exact List.take_of_length_le (by rw [List.length_drop]; exact Nat.le_refl _)
theorem ba_at (t : ByteArray) (h : i < t.size) (h' : i < t.data.toList.length) : t.data.toList[i]'h' = t[i]'h := rfl
theorem ba_take (t : ByteArray) (h : i < t.size) : t.data.toList.take (i + 1) = t.data.toList.take i ++ [t[i]'h] := by
 have h' : i < t.data.toList.length := h
 rw [List.take_succ_eq_append_getElem h', ba_at t h h']
theorem ba_mem (t : ByteArray) (h : i < t.size) : t[i]'h ∈ t.data.toList := by
 have h' : i < t.data.toList.length := h
 rw [← ba_at t h h']; exact List.getElem_mem _
theorem tb_gives (n : Nat) (hn : 1 ≤ n) (B : Nat) (s : ByteArray) (hs : s.size ≤ 1000000) (hd : ∀ c ∈ s.data.toList, isDg c) (W : World) (hB : SBox W B (.string s)) :
  GivesAll Fence.wide n Tryz.prog 167 #[.pointer (some ⟨B, 0, none⟩)] (fun x : Nat × Nat => #[.int .u32 (x.1 : Int), .int .i64 (x.2 : Int)]) (Only B) (KpB B) (blks s.size s.data.toList) W := fun l J hJ hY h0 => by
 refine callsIn_of_wp Tryz.func167 rfl trivial ?_ rfl
 simp only [Tryz.ntmps167, List.size_toArray, List.length_cons, List.length_nil, Nat.reduceAdd, Nat.reduceSub, Array.replicate_succ, Array.replicate_zero, List.push_toArray, List.append_toArray, List.nil_append, List.cons_append]
 have HY := Hi hY
 have HJ := Hi hJ
 have HD := Hi hd
 clear hY hJ hd
 gi_wp2
 gi_loopw [3] (fun _ wr => ∃ (pre : List (Nat × Nat)) (f : Nat) (t : ByteArray), Hid (blks s.size s.data.toList = pre ++ blks f t.data.toList) ∧ t.size ≤ f ∧ t.size ≤ s.size ∧ Hid (∀ c ∈ t.data.toList, isDg c) ∧ SBox wr B (.string t) ∧ J pre wr) (fun _ wr => strLeft B wr)
 case atStart => exact ⟨[], s.size, s, Hi rfl, Nat.le_refl _, Nat.le_refl _, HD, hB, h0⟩
 case round =>
  obtain ⟨pre, f, t, hx, hf, hts, hdt, hb, hj⟩ := hrel
  have hc := hb.cell
  by_cases h0 : 0 < t.size
  ·have h0i : (0 : Int) < (t.size : Int) := by omega
   obtain ⟨k, hk⟩ : ∃ k, k = min 9 t.size := ⟨_, rfl⟩
   have hmin : min (9 : Int) (t.size : Int) = (k : Int) := by omega
   have hk9 : k ≤ 9 := by omega
   have hkt : k ≤ t.size := by omega
   have hk0 : 0 < k := by omega
   have HK := Hi hk
   clear hk
   obtain ⟨wo, rfl⟩ : ∃ wo : World, wo = wr := ⟨_, rfl⟩
   gi_wp2
   gi_loopw [4, 13] (fun bv iv wi => ∃ (i v : Nat), i ≤ k ∧ iv = .int .i64 (i : Int) ∧ bv = .int .u32 (v : Int) ∧ v < 10 ^ i ∧ Hid (v = dnum (t.data.toList.take i)) ∧ wi = wo) (fun _ iv _ => k - (intOf iv).toNat)
   case atStart => exact ⟨0, 0, Nat.zero_le _, rfl, rfl, by decide, Hi rfl, rfl⟩
   case round =>
    obtain ⟨i, v, hi, rfl, rfl, hvl, hv, hwi⟩ := hrel
    rw [hwi]
    clear hwi
    by_cases hlt : i < k
    ·have hlti : (i : Int) < (k : Int) := by omega
     have hit : i < t.size := by omega
     have hdg := hdt.out _ (ba_mem t hit)
     unfold isDg at hdg
     have hst := ba_take t hit
     have HS : Hid (dnum (t.data.toList.take (i + 1)) = 10 * dnum (t.data.toList.take i) + dg t[i]) := by rw [hst]; exact dnum_snoc _ _
     clear hst
     have hp : 10 ^ i ≤ 100000000 := Nat.le_trans (Nat.pow_le_pow_right (by decide) (show i ≤ 8 by omega)) (by decide)
     have hpl : v < 100000000 := by omega
     have hvn : v + 1 ≤ 10 ^ i := hvl
     have HP := Hi hvn
     clear hp hvl hvn
     gi_wp2
     go_roundw
     case rel =>
      refine ⟨i + 1, 10 * v + (t[i].toNat - 48), by omega, by go_num, by go_num, ?_, ?_, trivial⟩
      ·rw [Nat.pow_succ]; have := HP.out; omega
      ·have h1 := HS.out
       have h2 := hv.out
       exact Hi (by rw [h1, ← h2]; rfl)
     case measure => simp [intOf]; omega
    ·have hnlt : ¬ (i : Int) < (k : Int) := by omega
     obtain rfl : k = i := by omega
     clear hi
     obtain ⟨f', rfl⟩ : ∃ f', f = f' + 1 := ⟨f - 1, by omega⟩
     have hlen : t.data.toList.length = t.size := rfl
     have hne : t.data.toList ≠ [] := fun e => by rw [e, List.length_nil] at hlen; omega
     have hbl : blks s.size s.data.toList = pre ++ (v, k) :: blks f' (t.data.toList.drop 9) := by
      have e1 : min 9 t.data.toList.length = k := HK.out.symm
      have e2 : t.data.toList.take 9 = t.data.toList.take k := by
       rw [← e1]; exact List.take_eq_take_min ..
      have := hx.out
      rw [blks, if_neg hne, e2, e1, ← hv.out] at this
      exact this
     have HB := Hi hbl
     have hfr := hb.free 0
     have hO : Only B wo (wo.setCell ⟨B, 0, none⟩ (.string (t.extract k t.size))) := (only_refl B wo).set_ (.inl rfl) _
     obtain ⟨fn, tmps, assign, body, hy, hR⟩ := HY.out pre (v, k) _ hbl _ (HJ.out _ _ _ hj hO)
     dsimp only at hy
     have hb2 := hb.set_ (.string (t.extract k t.size))
     clear hbl hne hlen
     gi_wp2
     refine hR.mono ?_
     rintro e W' ⟨rfl, hJ', hkp⟩
     gi_wp2
     have hb3 : SBox W' B (.string (t.extract k t.size)) := Eq.trans hkp hb2
     have hl9 : (t.extract k t.size).data.toList = t.data.toList.drop 9 := by
      rw [ext_list, HK.out]
      rcases Nat.lt_or_ge t.size 9 with h | h
      ·rw [Nat.min_eq_right (by omega), List.drop_eq_nil_of_le (by simp), List.drop_eq_nil_of_le (by simp; omega)]
      ·rw [Nat.min_eq_left h]
     have hsz : (t.extract k t.size).size = t.size - k := by simp
     go_roundw
     case rel =>
      refine ⟨pre ++ [(v, k)], f', t.extract k t.size, Hi ?_, by omega, by omega, Hi ?_, hb3, hJ'⟩
      ·rw [hl9, HB.out]; simp
      ·rw [hl9]; exact fun c hc => hdt.out c (List.mem_of_mem_drop hc)
     case measure => rw [hb3.left, hb.left]; omega
  ·have h0i : ¬ (0 : Int) < (t.size : Int) := by omega
   gi_wp2
   go_end0
   refine ⟨⟨_, rfl⟩, ?_⟩
   have : t.data.toList = [] := List.eq_nil_of_length_eq_zero (by show t.size = 0; omega)
   have e : blks f t.data.toList = [] := by rw [this]; cases f <;> simp [blks]
   rw [hx.out, e, List.append_nil]
   exact hj
open Go.RowKit Go.Shelf
variable {A : Option Addr} {S l : List Nat} {W W' : World} {base c i k n p x : Nat} {v : Value}
attribute [local go_sem] Oper.semAt_some
def Tens (W : World) : Prop := ∀ i, i ≤ 9 → W.cell? ⟨0, i, none⟩ = some (.int .u32 ((10 ^ i : Nat) : Int))
theorem Tens.lt (h : Tens W) : 0 < W.heap.size := World.block_lt_of_cell? W _ (h 0 (by omega))
theorem Tens.of_block (h : Tens W) (hb : W'.heap[0]? = W.heap[0]?) : Tens W' := fun i hi => (World.cell?_of_block hb).trans (h i hi)
theorem Tens.below (h : Tens W) (hb : Below W.heap.size W W') : Tens W' := h.of_block (hb.block _ h.lt)
def KpW (D : Nat) (A C : World) : Prop := A.heap.size ≤ C.heap.size ∧ ∀ i, (D ≤ i ∨ i = 0) → i < A.heap.size → C.heap[i]? = A.heap[i]?
noncomputable def numLeft (v : Value) (W : World) : Nat := by
 classical
 exact match v with
 | .slice A n _ => if h : ∃ l : List Nat, l.length = n ∧ WS W A l then val (Classical.choose h) else 0
 | _ => 0
theorem ws_inj {l k : List Nat} (h : l.length = k.length) (hl : WS W A l) (hk : WS W A k) : l = k := by
 refine List.ext_getElem h fun j h1 h2 => ?_
 obtain ⟨b, o, rfl, _, hc⟩ := hl.at_ (by omega)
 obtain ⟨b', o', e, _, hc'⟩ := hk.at_ (by omega)
 injection e with e
 injection e with e1 e2
 subst e1 e2
 have e3 := (hc j h1).symm.trans (hc' j h2)
 injection e3 with e3
 injection e3 with _ e3
 rw [gd_at h1, gd_at h2] at e3
 omega
theorem numLeft_of (h : l.length = n) (hl : WS W A l) : numLeft (.slice A n c) W = val l := by
 have hex : ∃ l : List Nat, l.length = n ∧ WS W A l := ⟨l, h, hl⟩
 unfold numLeft
 simp only [dif_pos hex]
 have := Classical.choose_spec hex
 rw [ws_inj (this.1.trans h.symm) this.2 hl]
theorem wb_gives (n : Nat) (hn : 1 ≤ n) (B : Nat) (A : Option Addr) (c : Nat) (l : List Nat) (hlen : l.length ≤ 1000000) (hT : Top l) (W : World) (hB : W.cell? ⟨B, 0, none⟩ = some (.slice A l.length c)) (hl : WS W A l) (ht : Tens W) :
  GivesAll Fence.wide n Tryz.prog 171 #[.pointer (some ⟨B, 0, none⟩)] (fun x : Nat => #[.int .u32 (x : Int)]) (Below W.heap.size) (KpW W.heap.size) (wblks (val l) (val l)) W := fun L J hJ hY h0 => by
 refine callsIn_of_wp Tryz.func171 rfl trivial ?_ rfl
 simp only [Tryz.ntmps171, List.size_toArray, List.length_cons, List.length_nil, Nat.reduceAdd, Nat.reduceSub, Array.replicate_succ, Array.replicate_zero, List.push_toArray, List.append_toArray, List.nil_append, List.cons_append]
 have HY := Hi hY
 have HJ := Hi hJ
 have HT := Hi hT
 have HTn := Hi ht
 clear hY hJ hT ht
 gi_wp2
 refine ⟨trivial, ?_⟩
 refine (callsIn_wide.2 (own_any W W A l.length c l rfl (by omega) hl (b0 _))).mono ?_
 rintro e W1 ⟨g, rfl, hg, hb, hbw⟩
 gi_wp2
 gi_loopw [3] (fun rv wr => ∃ (pre : List Nat) (f : Nat) (k : Nat) (R : List Nat), Hid (wblks (val l) (val l) = pre ++ wblks f (val (R.take k))) ∧ rv = .slice (some ⟨g, 0, none⟩) k l.length ∧ k ≤ R.length ∧ R.length = l.length ∧ Hid (Top (R.take k)) ∧ val (R.take k) ≤ f ∧ Blk wr g R ∧ W.heap.size ≤ g ∧ Hid (Tens wr) ∧ W.heap.size ≤ wr.heap.size ∧ J pre wr) (fun rv wr => numLeft rv wr)
 case atStart =>
  have e : l.take l.length = l := List.take_length
  exact ⟨[], val l, l.length, l, Hi (by rw [e]; rfl), rfl, Nat.le_refl _, rfl, Hi (by rw [e]; exact HT.out), by rw [e]; exact Nat.le_refl _, hb, hg, Hi (HTn.out.below hbw), hbw.size, HJ.out _ _ _ h0 hbw⟩
 case round =>
  obtain ⟨pre, f, k, R, hx, rfl, hk, hR, hTk, hf, hb', hg', htn, hsz, hj⟩ := hrel
  by_cases h0 : 0 < k
  ·have h0i : (0 : Int) < (k : Int) := by omega
   have htc := htn.out 9 (by omega)
   rw [show ((10 ^ 9 : Nat) : Int) = 1000000000 from rfl] at htc
   have hN0 : 0 < val (R.take k) := val_pos hTk.out (by simp; omega)
   obtain ⟨f', rfl⟩ : ∃ f', f = f' + 1 := ⟨f - 1, by omega⟩
   obtain ⟨x, hxx⟩ : ∃ x, x = val (R.take k) % 1000000000 := ⟨_, rfl⟩
   have hxl : x < 1000000000 := by rw [hxx]; exact Nat.mod_lt _ (by decide)
   have hbl : wblks (val l) (val l) = pre ++ x :: wblks f' (val (R.take k) / 1000000000) := by
    have := hx.out
    rw [wblks, if_neg (by omega), ← hxx] at this
    exact this
   have HB := Hi hbl
   have hsh := shorten_any g k l.length R 1000000000 wr hk (by omega) (by decide) (by decide) hb'
   rw [← hxx] at hsh
   clear hxx
   gi_wp2
   refine ⟨trivial, ?_⟩
   refine (callsIn_wide.2 hsh).mono ?_
   rintro e W2 ⟨S, rfl, hS, hSv, hbS, hO⟩
   have HSl := Hi hS
   have HSv := Hi hSv
   clear hS hSv
   have hws : WS W2 (some ⟨g, 0, none⟩) S := by
    have h := hbS.ws (o := 0) (n := k) (by rw [List.length_append, HSl.out]; omega)
    rw [List.drop_zero, ← HSl.out, List.take_left' rfl] at h
    exact h
   gi_wp2
   refine ⟨trivial, ?_⟩
   refine (callsIn_wide.2 (trim_any (some ⟨g, 0, none⟩) k l.length S W2 HSl.out (by omega) (by omega) hws)).mono ?_
   rintro e W3 ⟨⟨k', hk', rfl, hTop', hz'⟩, rfl⟩
   have hBO : Below W.heap.size wr W2 := ⟨hO.os, hO.tape, hO.output, hO.size, fun i hi => hO.block i (by omega) (fun e => by injection e; omega)⟩
   have hgt := HTn.out.lt
   have htn2 : Tens W2 := htn.out.of_block (hO.block _ htn.out.lt (fun e => by injection e; omega))
   obtain ⟨fn, tmps, assign, body, hy, hR'⟩ := HY.out pre x _ HB.out W2 (HJ.out _ _ _ hj hBO)
   have HTP := Hi hTop'
   have HZ := Hi hz'
   have HTN2 := Hi htn2
   clear hTop' hz' htn2 htc hbl
   gi_wp2
   refine hR'.mono ?_
   rintro e W4 ⟨rfl, hJ', hkp⟩
   gi_wp2
   have hb4 : Blk W4 g (S ++ R.drop k) := ⟨hbS.1, (hkp.2 g (.inl hg') hbS.lt).trans hbS.2⟩
   have htk : (S ++ R.drop k).take k' = S.take k' := List.take_append_of_le_length (by rw [HSl.out]; exact hk')
   have hvk : val (S.take k') = val S := val_take_top S k' HZ.out
   have hws4 : WS W4 (some ⟨g, 0, none⟩) (S.take k') := by
    have h := hb4.ws (o := 0) (n := k') (by rw [List.length_append, HSl.out]; omega)
    rw [List.drop_zero, htk] at h
    exact h
   have hwsr : WS wr (some ⟨g, 0, none⟩) (R.take k) := by
    have h := hb'.ws (o := 0) (n := k) (by omega)
    rw [List.drop_zero] at h
    exact h
   go_roundw
   case rel =>
    refine ⟨pre ++ [x], f', k', S ++ R.drop k, Hi ?_, rfl, ?_, ?_, Hi ?_, ?_, hb4, hg', Hi ?_, Nat.le_trans hsz (Nat.le_trans hO.size hkp.1), hJ'⟩
    ·rw [htk, hvk, HSv.out, HB.out]; simp
    ·rw [List.length_append, HSl.out]; omega
    ·rw [List.length_append, HSl.out, List.length_drop]; omega
    ·rw [htk]
     intro h1
     rw [List.length_take, HSl.out, Nat.min_eq_left hk'] at h1 ⊢
     rw [gd_take (by omega)]
     exact HTP.out h1
    ·rw [htk, hvk, HSv.out]; omega
    ·exact HTN2.out.of_block (hkp.2 _ (.inr rfl) HTN2.out.lt)
   case measure =>
    rw [numLeft_of (by rw [List.length_take, HSl.out]; omega) hws4, numLeft_of (by rw [List.length_take]; omega) hwsr, hvk, HSv.out]
    omega
  ·have h0i : ¬ (0 : Int) < (k : Int) := by omega
   gi_wp2
   go_end0
   refine ⟨⟨_, rfl⟩, ?_⟩
   have : R.take k = [] := by rw [show k = 0 by omega]; rfl
   rw [hx.out, this, show val [] = 0 from rfl, wblks_zero, List.append_nil]
   exact hj
open Go.RowKit
variable {A : Option Addr} {S l : List Nat} {W W' : World} {base c i k n p x : Nat} {v : Value}
open Go.RowKit
variable {A : Option Addr} {S l : List Nat} {W W' : World} {base c i k n p x : Nat} {v : Value}
def wv (l : List Nat) : List Value := l.map fun (x : Nat) => Value.int .u32 (x : Int)
theorem wv_length (l : List Nat) : (wv l).length = l.length := by simp [wv]
def OwnR (base : Nat) (W : World) (v : Value) (l : List Nat) : Prop := W.ownsRow base 83 1 v l.length (wv l) ∧ (∀ x ∈ l, x < 4294967296)
theorem OwnR.nil (base : Nat) (W : World) : OwnR base W (.slice none 0 0) [] := ⟨World.ownsRow_nil _ _ _ _, by simp⟩
theorem OwnR.some_ (h : OwnR base W v l) (h0 : 0 < l.length) : ∃ g cap, v = .slice (some ⟨g, 0, none⟩) l.length cap ∧ base ≤ g ∧ g < W.heap.size ∧ l.length ≤ cap ∧ WS W (some ⟨g, 0, none⟩) l ∧ W.frozen? ⟨g, 0, none⟩ = false ∧ ∀ i, W.frozen? ⟨g, i, none⟩ = false := by
 rcases h.1.2 with ⟨rfl, h1⟩ | ⟨g, cap, cur, rfl, h1, h2, h3, h4, h5, h6⟩
 ·omega
 ·have hlt : g < W.heap.size := (Array.getElem?_eq_some_iff.1 h2).1
  have hfr : ∀ i, W.frozen? ⟨g, i, none⟩ = false := fun i => by simp [World.frozen?, h2]
  refine ⟨g, cap, rfl, h1, hlt, h3, ⟨h.2, fun _ => ⟨g, 0, rfl, hlt, fun j hj => ?_⟩⟩, hfr 0, hfr⟩
  rw [cell_of_row W g _ _ _ (0, 0) h2, Nat.zero_add]
  have e1 : (cur.toList.take (l.length * 1))[j]? = some (.int .u32 ((gd l j : Nat) : Int)) := by
   rw [h6, wv, List.getElem?_map, List.getElem?_eq_getElem hj, gd_at hj]; rfl
  rw [List.getElem?_take_of_lt (by omega)] at e1
  simpa using e1
theorem OwnR.nil_ (h : OwnR base W v l) (h0 : l.length = 0) : (v = .slice none 0 0 ∨ ∃ g cap, v = .slice (some ⟨g, 0, none⟩) 0 cap ∧ base ≤ g ∧ g < W.heap.size) := by
 rcases h.1.2 with ⟨rfl, h1⟩ | ⟨g, cap, cur, rfl, h1, h2, h3, h4, h5, h6⟩
 ·exact .inl rfl
 ·exact .inr ⟨g, cap, by rw [h0], h1, (Array.getElem?_eq_some_iff.1 h2).1⟩
theorem OwnR.set_ {g n cap : Nat} (h : OwnR base W (.slice (some ⟨g, 0, none⟩) n cap) l) (hi : i < l.length) (hx : x < 4294967296) :
  OwnR base (W.setCell ⟨g, i, none⟩ (.int .u32 (x : Int))) (.slice (some ⟨g, 0, none⟩) n cap) (l.set i x) := by
 refine ⟨⟨by rw [wv_length]; omega, ?_⟩, fun y hy => ?_⟩
 ·rcases h.1.2 with ⟨h1, _⟩ | ⟨g', cap', cur, h1, h2, h3, h4, h5, h6, h7⟩
  ·cases h1
  ·injection h1 with h1 h8 h9
   injection h1 with h1
   injection h1 with h1
   subst h1 h9 h8
   refine .inr ⟨g, cap, cur.setIfInBounds i (.int .u32 (x : Int)), by rw [List.length_set], h2, ?_, by rw [List.length_set]; exact h4, h5, by simpa using h6, ?_⟩
   ·simp [World.setCell, Array.getElem?_modify, h3]
   ·rw [List.length_set, Array.toList_setIfInBounds, List.take_set, h7]
    simp [wv, List.map_set]
 ·rcases List.mem_or_eq_of_mem_set hy with h1 | h1
  ·exact h.2 y h1
  ·rw [h1]; exact hx
theorem OwnR.below (h : OwnR base W v l) (hb : Below W.heap.size W W') : OwnR base W' v l :=
 ⟨h.1.kept (row := none) ⟨hb.os, hb.tape, hb.output, hb.size, fun k hk _ => hb.block k hk⟩ (by cases hv : v.ownBlock <;> simp), h.2⟩
theorem OwnR.slice (h : OwnR base W v l) : ∃ A c, v = .slice A l.length c := by
 rcases h.1.2 with ⟨rfl, h1⟩ | ⟨g, cap, cur, rfl, h1, h2, h3, h4, h5, h6⟩
 ·exact ⟨none, 0, by rw [h1]⟩
 ·exact ⟨_, cap, rfl⟩
def ExtR (base : Nat) (w : World) (v : Value) (N : Nat) (e : Ending) (w' : World) : Prop :=
 ∃ v' l', e = .returned v' ∧ OwnR base w' v' l' ∧ Top l' ∧ val l' = N ∧ w.grownBy w' v.ownBlock ∧ (l'.length = 0 → v' = .slice none 0 0)
theorem top_of_ge (hS : ∀ x ∈ S, x < 4294967296) (h : 0 < S.length → BB (S.length - 1) ≤ val S) : Top S := fun h0 e => by
 have h1 : S = S.take (S.length - 1) ++ [gd S (S.length - 1)] := by
  have := take_snoc S (k := S.length - 1) (by omega)
  rw [show S.length - 1 + 1 = S.length from by omega, List.take_length] at this
  exact this
 have h2 : val S = val (S.take (S.length - 1)) + BB (S.length - 1) * gd S (S.length - 1) := by
  have := val_snoc (S.take (S.length - 1)) (gd S (S.length - 1))
  rw [← h1, List.length_take, Nat.min_eq_left (by omega)] at this
  exact this
 rw [e, Nat.mul_zero] at h2
 have h3 := val_lt (words_take hS (S.length - 1))
 rw [List.length_take, Nat.min_eq_left (by omega)] at h3
 have := h h0
 omega
theorem ext_step {vS K r vl x d c t : Nat} (hv : vS + K * r = vl * d + c) (ht : t = x * d + r) :
  vS + K * (t % 4294967296) + K * 4294967296 * (t / 4294967296) = (vl + K * x) * d + c := by
 have h1 : K * (t % 4294967296) + K * 4294967296 * (t / 4294967296) = K * t := by
  rw [Nat.mul_assoc, ← Nat.mul_add, Nat.mod_add_div]
 rw [Nat.add_assoc, h1, ht, Nat.mul_add, Nat.add_mul, Nat.mul_assoc]
 omega
theorem set_pre (hS : S.length = k) (hk : k < l.length) : (S ++ l.drop k).set k x = (S ++ [x]) ++ l.drop (k + 1) := by
 rw [List.set_append_right _ _ (by omega), hS, Nat.sub_self, List.drop_eq_getElem_cons hk, List.set_cons_zero]
 simp
theorem gd_pre (hS : S.length = k) : gd (S ++ l.drop k) k = gd l k := by
 simp only [gd, List.getD_eq_getElem?_getD]
 rw [List.getElem?_append_right (by omega), hS, Nat.sub_self, List.getElem?_drop, Nat.add_zero]
theorem extend_zero (base : Nat) (w : World) (d : Nat) (hd : d < 4294967296) :
  Calls Tryz.prog 132 #[.slice none 0 0, .int .u32 (d : Int), .int .u32 0] w (ExtR base w (.slice none 0 0) 0) := by
 go_enter Tryz.func132, Tryz.ntmps132
 go_wp2_with fail
 go_loopw [7, 15] (fun cv iv wr => cv = .int .u64 0 ∧ iv = .int .i64 0 ∧ wr = w) (fun _ _ _ => 0)
 case atStart => exact ⟨rfl, rfl, rfl⟩
 case round =>
  obtain ⟨rfl, rfl, hwr⟩ := hrel
  rw [hwr]
  go_wp2_with fail
  go_ret
  exact ⟨_, [], rfl, OwnR.nil _ _, top_nil, rfl, ⟨rfl, rfl, rfl, Nat.le_refl _, fun _ _ _ => rfl⟩, fun _ => rfl⟩
theorem extend_first (base : Nat) (w : World) (d c : Nat) (hd : d < 4294967296) (hc0 : 0 < c) (hc : c < 4294967296) (hbase : base ≤ w.heap.size) :
  Calls Tryz.prog 132 #[.slice none 0 0, .int .u32 (d : Int), .int .u32 (c : Int)] w (ExtR base w (.slice none 0 0) c) := by
 obtain ⟨i0, hi0, hz0, hz1, hz2⟩ := info_v
 have hne : ((c : Int) != 0) = true := by simp; omega
 go_enter Tryz.func132, Tryz.ntmps132
 go_wp2_with fail
 go_loopw [7, 15] (fun cv iv wr => cv = .int .u64 (c : Int) ∧ iv = .int .i64 0 ∧ wr = w) (fun _ _ _ => 0)
 case atStart => exact ⟨rfl, rfl, rfl⟩
 case round =>
  obtain ⟨rfl, rfl, hwr⟩ := hrel
  rw [hwr]
  have hone : Blk (w.alloc (.cells #[.int .u32 (c : Int)] 83)) w.heap.size [c] := Blk.new w [c] (by simpa using hc)
  have hws := hone.ws (o := 0) (n := 1) (by simp)
  rw [List.drop_zero, show List.take 1 [c] = [c] from rfl] at hws
  go_wp2_with (at_builtin; refine wpList_append_lies _ rfl (.tmp 37) (.tmp 40) _ rfl base 83 i0 _ 1 4 Tryz.underlying22 hi0 hz0 hz1 hz2 rfl (by omega) (.slice none 0 0) 0 [] rfl ⟨rfl, .inl ⟨rfl, rfl⟩⟩ ⟨w.heap.size, 0, none⟩ 1 1 (([c] : List Nat).map fun (x : Nat) => Value.int .u32 (x : Int)) rfl (by simp) (news_ws (k := 1) (l := [c]) (by simp) hws) one_words (by omega) (by simp only [maxLen]; omega) (by omega) (by simp; omega) _ rfl ?_; intro g cap w3 hown hgrow hat hlt3)
  go_ret
  refine ⟨_, [c], rfl, ⟨hown, by simpa using hc⟩, fun _ => by show c ≠ 0; omega, by simp [val], ?_, fun h => by simp at h⟩
  exact ⟨hgrow.os, hgrow.tape, hgrow.output, by have := hgrow.size; simp at this; omega, fun k hk hn => (hgrow.block k (by simp; omega) hn).trans (Below.heap_alloc _ _ _ hk)⟩
theorem extend_own (base : Nat) (w : World) (g cap : Nat) (l : List Nat) (d c : Nat) (hl : OwnR base w (.slice (some ⟨g, 0, none⟩) l.length cap) l) (h0 : 0 < l.length) (hlen : l.length ≤ 1000000) (hT : Top l) (hd0 : 0 < d) (hd : d < 4294967296) (hc : c < 4294967296) (hbase : base ≤ w.heap.size) :
  Calls Tryz.prog 132 #[.slice (some ⟨g, 0, none⟩) l.length cap, .int .u32 (d : Int), .int .u32 (c : Int)] w (ExtR base w (.slice (some ⟨g, 0, none⟩) l.length cap) (val l * d + c)) := by
 obtain ⟨i0, hi0, hz0, hz1, hz2⟩ := info_v
 have HT := Hi hT
 clear hT
 go_enter Tryz.func132, Tryz.ntmps132
 go_wp2_with fail
 go_loopw [7, 15] (fun cv iv wr => ∃ (k : Nat) (S : List Nat) (r : Nat), k ≤ l.length ∧ iv = .int .i64 (k : Int) ∧ cv = .int .u64 (r : Int) ∧ r < 4294967296 ∧ S.length = k ∧ (∀ x ∈ S, x < 4294967296) ∧ val S + BB k * r = val (l.take k) * d + c ∧ OwnR base wr (.slice (some ⟨g, 0, none⟩) l.length cap) (S ++ l.drop k) ∧ Only g w wr) (fun _ iv _ => l.length - (intOf iv).toNat)
 case atStart => exact ⟨0, [], c, Nat.zero_le _, rfl, rfl, hc, rfl, by simp, by simp [val, BB], by simpa using hl, only_refl _ _⟩
 case round =>
  obtain ⟨k, S, r, hk, rfl, rfl, hr, hS, hSw, hv, hb, hO⟩ := hrel
  have hSl : (S ++ l.drop k).length = l.length := by rw [List.length_append, List.length_drop, hS]; omega
  obtain ⟨g', cap', e, hg1, hg2, hg3, hws, hf0, hf⟩ := hb.some_ (by omega)
  rw [hSl] at e
  injection e with e1 e2 e3
  injection e1 with e1
  injection e1 with e1
  subst e1 e3
  clear e2
  by_cases hlt : k < l.length
  ·obtain ⟨b, off, e, _, hcs⟩ := hws.at_ (by omega)
   injection e with e
   injection e with e1 e2
   subst e1 e2
   have hc1 := hcs k (by omega)
   rw [Nat.zero_add, gd_pre hS] at hc1
   have hfk := hf k
   have hx : gd l k < 4294967296 := getD_lt hl.2 k
   have H1 := Hi (val_take l hlt)
   have hltl : (k : Int) < (l.length : Int) := by omega
   have HS := Hi hS
   have HV := Hi hv
   have HSl := Hi hSl
   have HF := Hi hf
   clear hcs hws hf hS hv hSl
   generalize gd l k = x at *
   have hxy := Nat.mul_le_mul (Nat.le_of_lt_succ hx) (Nat.le_of_lt_succ hd)
   obtain ⟨p, hp⟩ : ∃ p, p = x * d := ⟨_, rfl⟩
   have hpi : (x : Int) * (d : Int) = (p : Int) := by rw [hp]; simp
   have hpl : p ≤ 18446744065119617025 := by omega
   have HP := Hi hp
   clear hp hxy
   go_wp2_with fail
   go_roundw
   case rel =>
    have et : (p + r) % 4294967296 < 4294967296 := Nat.mod_lt _ (by decide)
    refine ⟨k + 1, S ++ [(p + r) % 4294967296], (p + r) / 4294967296, by omega, by go_num, by go_num, by omega, by simp [HS.out], words_snoc hSw et, ?_, ?_, hO.set_ (.inl rfl) _⟩
    ·rw [val_snoc, HS.out, H1.out, BB_succ]
     exact ext_step HV.out (by rw [HP.out])
    ·have h := hb.set_ (i := k) (by rw [HSl.out]; exact hlt) et
     rw [set_pre HS.out hlt] at h
     exact h
   case measure => simp [intOf]; omega
  ·have he : k = l.length := by omega
   subst he
   rw [List.take_length] at hv
   rw [List.drop_length, List.append_nil] at hb
   have hnl : ¬ (l.length : Int) < (l.length : Int) := by omega
   have hlow := val_lower HT.out h0
   have hmono := Nat.le_mul_of_pos_right (val l) hd0
   have HS := Hi hS
   have HV := Hi hv
   clear hS hv hSl hws
   rcases Nat.eq_zero_or_pos r with rfl | hr0
   ·go_wp2_with fail
    go_ret
    have hv' : val S = val l * d + c := by have := HV.out; simpa using this
    refine ⟨_, S, rfl, hb, top_of_ge hSw (fun _ => by rw [HS.out]; omega), hv', hO, fun h => by rw [HS.out] at h; omega⟩
   ·have hne : ((r : Int) != 0) = true := by simp; omega
    have hone : Blk (wr.alloc (.cells #[.int .u32 (r : Int)] 83)) wr.heap.size [r] := Blk.new wr [r] (by simpa using hr)
    have hws := hone.ws (o := 0) (n := 1) (by simp)
    rw [List.drop_zero, show List.take 1 [r] = [r] from rfl] at hws
    have hb2 := hb.below (ba (b0 wr) (.cells #[.int .u32 (r : Int)] 83))
    have hrow := hb2.1
    rw [HS.out] at hrow
    have hsz := hO.size
    go_wp2_with (at_builtin; refine wpList_append_lies _ rfl (.tmp 37) (.tmp 40) _ rfl base 83 i0 _ 1 4 Tryz.underlying22 hi0 hz0 hz1 hz2 rfl (by omega) (.slice (some ⟨g, 0, none⟩) l.length cap) l.length (wv S) rfl hrow ⟨wr.heap.size, 0, none⟩ 1 1 (([r] : List Nat).map fun (x : Nat) => Value.int .u32 (x : Int)) rfl (by simp) (news_ws (k := 1) (l := [r]) (by simp) hws) one_words (by omega) (by simp only [maxLen]; omega) (by omega) (by simp; omega) _ rfl ?_; intro g2 cap2 w3 hown hgrow hat hlt3)
    go_ret
    refine ⟨_, S ++ [r], rfl, ⟨?_, words_snoc hSw hr⟩, fun _ => ?_, ?_, ?_, fun h => by simp at h⟩
    ·have e : wv (S ++ [r]) = wv S ++ ([r] : List Nat).map fun (x : Nat) => Value.int .u32 (x : Int) := by simp [wv]
     rw [e, List.length_append, HS.out]
     exact hown
    ·rw [List.length_append, List.length_singleton, Nat.add_sub_cancel]
     simp [gd]
     omega
    ·rw [val_snoc, HS.out]; exact HV.out
    ·refine ⟨hgrow.os.trans hO.os, hgrow.tape.trans hO.tape, hgrow.output.trans hO.output, ?_, fun k hk hn => ?_⟩
     ·have := hgrow.size; simp at this; omega
     ·exact (hgrow.block k (by simp; omega) hn).trans ((Below.heap_alloc _ _ _ (by omega)).trans (hO.block k hk hn))
theorem extend_any (base : Nat) (w : World) (v : Value) (l : List Nat) (d c N : Nat) (hl : OwnR base w v l) (h0 : l.length = 0 → v = .slice none 0 0) (hlen : l.length ≤ 1000000) (hT : Top l) (hd0 : 0 < d) (hd : d < 4294967296) (hc : c < 4294967296) (hbase : base ≤ w.heap.size) (hN : N = val l * d + c) :
  Calls Tryz.prog 132 #[v, .int .u32 (d : Int), .int .u32 (c : Int)] w (ExtR base w v N) := by
 subst hN
 rcases Nat.eq_zero_or_pos l.length with h | h
 ·rw [h0 h, List.eq_nil_of_length_eq_zero h, show val [] = 0 from rfl, Nat.zero_mul, Nat.zero_add]
  rcases Nat.eq_zero_or_pos c with rfl | hc0
  ·exact extend_zero base w d hd
  ·exact extend_first base w d c hd hc0 hc hbase
 ·obtain ⟨g, cap, rfl, _⟩ := hl.some_ h
  exact extend_own base w g cap l d c hl h hlen hT hd0 hd hc hbase
end Go.Proofs.YtgljdfblgpdaaaaGreatDoor
