import Derived.Laws.AppendOwn
import Derived.Test.YtgljdfblgpdaaaaGreatDoorPbRatF
set_option linter.unusedSimpArgs false
set_option linter.unusedVariables false
set_option maxRecDepth 100000
set_option maxHeartbeats 4000000
namespace Go.Proofs.YtgljdfblgpdaaaaGreatDoor
open Go.RowKit
def GivesAllM {α : Type} (F : Fence) (n : Nat) (P : Program) (g : Nat) (lb : Array Value) (encs : α → Array Value → World → Prop) (Tn : World → World → Prop) (Kp : Nat → World → World → Prop) (xs : List α) (W : World) : Prop :=
 ∀ (l : Nat) (J : List α → Nat → World → Prop), (∀ s m A B, J s m A → Tn A B → J s m B) →
  (∀ pre x suf, xs = pre ++ x :: suf → ∀ m W1 vs, J pre m W1 → encs x vs W1 → YieldAt F (n - 1) P l vs W1 fun e W' => e = .returned (.bool true) ∧ J (pre ++ [x]) W'.heap.size W' ∧ Kp m W1 W') →
  J [] W.heap.size W →
  CallsIn F n P g (#[.func (.yield l) #[] #[]] ++ lb) W fun e W' => (∃ v, e = .returned v) ∧ ∃ m, J xs m W'
def allPostM {α : Type} (h : Nat) (Kp : Nat → World → World → Prop) (I : List α → Nat → World → Prop) (xs : List α) (m : Nat) (W : World) : Exit → Act → World → Prop
 | .normal, _, W' => (W'.heap[h]? = W.heap[h]? ∧ W'.heap[h + 1]? = W.heap[h + 1]?) ∧ Kp m W W' ∧ I xs W'.heap.size W'
 | _, _, _ => False
theorem range_allM {α : Type} {F : Fence} {n : Nat} {P : Program} {g : Operand} {ps : Array Tmp} {assign body : Code} {Q : Exit → Act → World → Prop} {a : Act} {w : World}
  (hro : F.round = none) (h1 : 1 ≤ n) {gf : Nat} {lb : Array Value} (hg : a.eval g = .func (.func gf) #[] lb) (hFg : F.fn gf) (eg : ∀ args w, (callFunc gf args).run P w = .ok (.enter gf args) w)
  {encs : α → Array Value → World → Prop} {Tn : World → World → Prop} {Kp : Nat → World → World → Prop} {xs : List α}
  (hseq : ∀ W, Below w.heap.size w W → W.heap.size = w.heap.size + 2 → GivesAllM F (n - 1) P gf lb encs Tn Kp xs W)
  (hps : ∀ x vs W, encs x vs W → vs.size = ps.size) (hencb : ∀ x vs W o st, encs x vs W → W.heap[w.heap.size + 1]? = some (.loop st) → encs x vs (W.putObj (w.heap.size + 1) o))
  (hT : ∀ A B, w.heap.size + 1 < A.heap.size → Tn A B → B.heap[w.heap.size]? = A.heap[w.heap.size]? ∧ B.heap[w.heap.size + 1]? = A.heap[w.heap.size + 1]?)
  (hKt : ∀ {m : Nat} {A B C : World}, Kp m A B → Kp m B C → Kp m A C) (hKb : ∀ (m : Nat) (W : World) (o : Obj) (st : Loop), w.heap.size + 1 < m → W.heap[w.heap.size + 1]? = some (.loop st) → Kp m W (W.putObj (w.heap.size + 1) o))
  (I : List α → Nat → World → Prop) (hI : ∀ s m A B, I s m A → Tn A B → I s m B)
  (hIm : ∀ s m A, I s m A → w.heap.size + 1 < m ∧ m ≤ A.heap.size)
  (hIb : ∀ s m A o st, I s m A → A.heap[w.heap.size + 1]? = some (.loop st) → I s m (A.putObj (w.heap.size + 1) o))
  (h0 : ∀ W, Below w.heap.size w W → W.heap.size = w.heap.size + 2 → I [] (w.heap.size + 2) W) (As : Array Value → World → Act → World → Prop)
  (hIw : ∀ s m A B, I s m A → Below A.heap.size A B → I s m B) (hencw : ∀ x vs A B, encs x vs A → Below A.heap.size A B → encs x vs B) (hKw : ∀ m A B, Below A.heap.size A B → Kp m A B)
  (hAs : ∀ vs W a V o st, As vs W a V → V.heap[w.heap.size + 1]? = some (.loop st) → As vs W a (V.putObj (w.heap.size + 1) o))
  (hassign : ∀ (l : Nat) (x : α) (vs : Array Value) (W : World) (K : Act → World → Prop), encs x vs W → w.heap.size + 1 < W.heap.size → (∀ a₁ V, Below W.heap.size W V → As vs W a₁ V → K a₁ V) →
   assign.wpIn (F.inRound l) (n - 1 - 1) P (Exit.then K (fun _ _ _ => False)) { tmps := (ps.zip vs).foldl (fun t (p, v) => t.setIfInBounds p v) a.tmps, defers := [] } W)
  (hbody : ∀ (l : Nat) (pre : List α) (x : α) (suf : List α), xs = pre ++ x :: suf → ∀ (m : Nat) (W V : World) (a₁ : Act) (vs : Array Value), I pre m V → encs x vs V → As vs W a₁ V → w.heap.size + 1 < W.heap.size → m ≤ W.heap.size → W.heap.size ≤ V.heap.size → body.wpIn (F.inRound l) (n - 1 - 1) P (allPostM w.heap.size Kp I (pre ++ [x]) m V) a₁ V)
  (hdone : ∀ (m : Nat) (W : World), I xs m W → W.heap[w.heap.size]? = some (.deferred (some [])) → Q .normal { a with defers := { target := .collected w.heap.size, args := #[] } :: a.defers } W) :
  (Code.rangeFunc g ps assign body).wpIn F n P Q a w := by
 refine wpIn_rangeFunc ?_
 intro fn hfn
 rw [hro]
 obtain ⟨rec, hrec⟩ : ∃ rec : LoopState → Loop, rec = fun st => { state := st, pending := none, fn, tmps := a.tmps, params := ps, assign, body, defers := w.heap.size } := ⟨_, rfl⟩
 obtain ⟨W1, hW1⟩ : ∃ W1, (w.alloc (.deferred (some []))).alloc (.loop (rec .ready)) = W1 := ⟨_, rfl⟩
 have hsz : W1.heap.size = w.heap.size + 2 := by rw [← hW1]; simp
 have hL1 : W1.heap[w.heap.size + 1]? = some (.loop (rec .ready)) := by
  rw [← hW1]; have := World.alloc_heap_new (w.alloc (.deferred (some []))) (.loop (rec .ready)); rwa [World.size_alloc] at this
 have hD1 : W1.heap[w.heap.size]? = some (.deferred (some [])) := by
  rw [← hW1]; exact (Below.heap_alloc _ _ _ (by simp)).trans (World.alloc_heap_new w _)
 have hb1 : Below w.heap.size w W1 := by
  rw [← hW1]; exact ((Below.refl _ w).alloc (Nat.le_refl _) _).alloc (by simp) _
 refine ⟨w.heap.size + 1, [{ target := .collected w.heap.size, args := #[] }], W1, { target := .fn (.func gf) lb, args := #[.func (.yield (w.heap.size + 1)) #[] #[]] }, W1, gf,
  #[.func (.yield (w.heap.size + 1)) #[] #[]] ++ lb, W1, ?_, ?_, ?_, ?_, fun _ => h1, ?_⟩
 ·rw [← hW1, hrec]; exact run_enterLoop_outer _ _ _ _ _
 ·simp only [resolve, hg]
  simp [go_sem]
 ·intro f' hf'; simp [Target.leads] at hf'; subst hf'; exact hFg
 ·simp [invoke, go_sem, eg]
 ·have hlt : ∀ (W : World) (o : Obj), W.heap[w.heap.size + 1]? = some o → w.heap.size + 1 < W.heap.size := fun W o h => (Array.getElem?_eq_some_iff.1 h).1
  refine (hseq W1 hb1 hsz (w.heap.size + 1)
   (fun pre m W => I pre m W ∧ W.heap[w.heap.size + 1]? = some (.loop (rec .ready)) ∧ W.heap[w.heap.size]? = some (.deferred (some [])))
   (fun s m A B hs hAB => by
    obtain ⟨e0, e1⟩ := hT A B (hlt A _ hs.2.1) hAB
    exact ⟨hI s m A B hs.1 hAB, e1.trans hs.2.1, e0.trans hs.2.2⟩)
   ?_ ⟨by rw [hsz]; exact h0 W1 hb1 hsz, hL1, hD1⟩).mono ?_
  ·rintro pre x suf hx m W vs ⟨hi, hl, hk⟩ hv
   have hl0 := hlt W _ hl
   obtain ⟨hm, hmW⟩ := hIm _ _ _ hi
   have hy := run_yield (P := P) (args := vs) hl (by rw [hrec]; exact hps x vs W hv)
   rw [hrec] at hy
   refine ⟨fn, _, assign, body, hy, roundIn_of_wpIn hfn (hassign _ x vs W _ hv hl0 (fun a₁ V hbV hAV => ?_))⟩
   have hlV := (hbV.block _ hl0).trans hl
   have hkV := (hbV.block _ (Nat.lt_of_succ_lt hl0)).trans hk
   refine ⟨_, run_beginRound hlV (by rw [hrec]), ?_⟩
   obtain ⟨W2, hW2⟩ : ∃ W2, W2 = V.putObj (w.heap.size + 1) (.loop { rec .ready with state := .busy }) := ⟨_, rfl⟩
   have hlV0 := hlt V _ hlV
   have hl2 : W2.heap[w.heap.size + 1]? = some (.loop { rec .ready with state := .busy }) := by rw [hW2]; exact World.putObj_heap_same hlV0
   have hk2 : W2.heap[w.heap.size]? = some (.deferred (some [])) := by rw [hW2]; exact (World.putObj_heap_other (by omega)).trans hkV
   have hw2 : Kp m W W2 := by rw [hW2]; exact hKt (hKw _ _ _ hbV) (hKb _ _ _ _ hm hlV)
   have hi2 : I pre m W2 := by rw [hW2]; exact hIb _ _ _ _ _ (hIw _ _ _ _ hi hbV) hlV
   have hv2 : encs x vs W2 := by rw [hW2]; exact hencb _ _ _ _ _ (hencw _ _ _ _ hv hbV) hlV
   have hA2 : As vs W a₁ W2 := by rw [hW2]; exact hAs _ _ _ _ _ _ hAV hlV
   have hs2 : W.heap.size ≤ W2.heap.size := by rw [hW2, show (V.putObj (w.heap.size + 1) _).heap.size = V.heap.size from by simp [World.putObj]]; exact hbV.size
   rw [← hW2]
   refine wpIn_mono (hbody _ pre x suf hx m W W2 a₁ vs hi2 hv2 hA2 hl0 hmW hs2) ?_
   rintro e a3 W3 hp
   cases e with
   | normal =>
    obtain ⟨⟨k0, k1⟩, hkp3, hi3⟩ := hp
    have hl3 := k1.trans hl2
    have hr := run_endRound (P := P) none hl3
    refine ⟨_, _, hr, rfl, ⟨by rw [show (W3.putObj (w.heap.size + 1) _).heap.size = W3.heap.size from by simp [World.putObj]]; exact hIb _ _ _ _ _ hi3 hl3, ?_, ?_⟩, hKt (hKt hw2 hkp3) (hKb _ _ _ _ hm hl3)⟩
    ·rw [World.putObj_heap_same (hlt W3 _ hl3), hrec]; rfl
    ·exact (World.putObj_heap_other (by omega)).trans (k0.trans hk2)
   | ret => exact hp.elim
   | exit id => exact hp.elim
   | goto t => exact hp.elim
   | panic ch => exact hp.elim
   | outgrown => exact hp.elim
  ·rintro e W2 ⟨⟨v, rfl⟩, m, hi, hl, hk⟩
   exact ⟨none, _, by have := run_endLoop (P := P) hl (by rw [hrec]; simp); rw [hrec] at this; exact this, hdone _ _ (hIb _ _ _ _ _ hi hl) ((World.putObj_heap_other (by omega)).trans hk)⟩
variable {a b c : Int}
theorem le_of_mul (h : a * c ≤ b * c) (hc : 0 < c) : a ≤ b := Int.le_of_mul_le_mul_right h hc
theorem lt_of_mul (h : a * c < b * c) (hc : 0 < c) : a < b := Int.lt_of_mul_lt_mul_right h (by omega)
def Terms : List Int → Int → Int → Int → Int → Prop
 | [], _, _, _, _ => False
 | t :: ts, a, b, c, d => (ts = [] ∧ a % b = 0 ∧ t = a / b) ∨ (ts = [] ∧ a % b ≠ 0 ∧ d ≤ c - a / b * d ∧ t = a / b + 1) ∨ (a % b ≠ 0 ∧ c - a / b * d < d ∧ t = a / b ∧ Terms ts d (c - a / b * d) b (a % b))
structure Pos (a b c d : Int) : Prop where
 pa : 0 < a
 pb : 0 < b
 pc : 0 < c
 pd : 0 < d
 ple : a * d ≤ c * b
theorem Pos.next {a b c d : Int} (h : Pos a b c d) (h1 : a % b ≠ 0) : Pos d (c - a / b * d) b (a % b) := by
 have hb := h.pb
 have hd := h.pd
 have h2 := Int.emod_nonneg a (show b ≠ 0 by omega)
 have h3 := Int.emod_add_mul_ediv a b
 have hl := h.ple
 have e : (a % b) * d = a * d - a / b * d * b := by
  have : a % b = a - b * (a / b) := by omega
  rw [this, Int.sub_mul]
  congr 1
  rw [Int.mul_comm b, Int.mul_right_comm]
 have e2 : (c - a / b * d) * b = c * b - a / b * d * b := Int.sub_mul ..
 have h4 : 0 < a % b := by omega
 have h5 : 0 < (a % b) * d := Int.mul_pos h4 hd
 have h6 : 0 < c - a / b * d := by
  refine lt_of_mul (c := b) ?_ hb
  rw [Int.zero_mul, e2]
  omega
 exact ⟨hd, h6, hb, h4, by rw [Int.mul_comm d, Int.mul_comm b, e, e2]; omega⟩
theorem terms_ex (k : Nat) : ∀ a b c d : Int, Pos a b c d → b.toNat + d.toNat ≤ k → ∃ ts, Terms ts a b c d := by
 induction k with
 | zero => intro a b c d h hk; have := h.pb; omega
 | succ k ih =>
  intro a b c d h hk
  by_cases h1 : a % b = 0
  ·exact ⟨[a / b], Or.inl ⟨rfl, h1, rfl⟩⟩
  ·by_cases h2 : d ≤ c - a / b * d
   ·exact ⟨[a / b + 1], Or.inr (Or.inl ⟨rfl, h1, h2, rfl⟩)⟩
   ·have hn := h.next h1
    have h3 := Int.emod_lt_of_pos a h.pb
    have h4 := h.pb
    have h5 := h.pd
    have h6 := hn.pb
    have h7 := hn.pd
    obtain ⟨ts, hts⟩ := ih _ _ _ _ hn (by omega)
    exact ⟨(a / b) :: ts, Or.inr (Or.inr ⟨h1, by omega, rfl, hts⟩)⟩
def tmade : List Int → Int × Int
 | [] => (1, 0)
 | t :: ts => (t * (tmade ts).1 + (tmade ts).2, (tmade ts).1)
structure Simp (a b c d p q : Int) : Prop where
 pp : 0 < p
 pq : 0 < q
 can : Nat.gcd p.natAbs q.natAbs = 1
 lo : a * q ≤ p * b
 hi : p * d ≤ c * q
 least : ∀ u v : Int, 0 < u → 0 < v → a * v ≤ u * b → u * d ≤ c * v → p ≤ u ∧ q ≤ v
theorem gcd_step {t p q : Int} (h : Nat.gcd p.natAbs q.natAbs = 1) : Nat.gcd (t * p + q).natAbs p.natAbs = 1 := by
 have h1 : Int.gcd (t * p + q) p = Int.gcd p q := by
  rw [Int.gcd_comm]
  exact Int.gcd_mul_right_add_right ..
 exact (h1.trans (show Int.gcd p q = 1 from h))
theorem simp_of (ts : List Int) : ∀ a b c d : Int, Pos a b c d → Terms ts a b c d → Simp a b c d (tmade ts).1 (tmade ts).2 := by
 induction ts with
 | nil => intro a b c d _ h; exact h.elim
 | cons t ts ih =>
  intro a b c d h hT
  have ha := h.pa
  have hb := h.pb
  have hc := h.pc
  have hd := h.pd
  have hle := h.ple
  have h2 := Int.emod_nonneg a (show b ≠ 0 by omega)
  have h2' := Int.emod_lt_of_pos a hb
  have h3 := Int.emod_add_mul_ediv a b
  obtain ⟨s, hs⟩ : ∃ s, s = a / b := ⟨_, rfl⟩
  obtain ⟨r, hr⟩ : ∃ r, r = a % b := ⟨_, rfl⟩
  have hs0 : 0 ≤ s := by rw [hs]; exact Int.ediv_nonneg (by omega) (by omega)
  rcases hT with ⟨rfl, h1, rfl⟩ | ⟨rfl, h1, h4, rfl⟩ | ⟨h1, h4, rfl, hT⟩
  ·rw [← hs]
   rw [← hr] at h2 h2' h3 h1
   rw [← hs] at h3
   have ea : a = s * b := by rw [Int.mul_comm]; omega
   have hs1 : 0 < s := by
    rcases Int.lt_or_le 0 s with g | g
    ·exact g
    ·have : s = 0 := by omega
     rw [this] at ea
     omega
   refine ⟨by simp [tmade]; exact hs1, by simp [tmade], by simp [tmade], by simp [tmade]; omega, ?_, ?_⟩
   ·simp only [tmade, Int.mul_one, Int.add_zero]
    refine le_of_mul (c := b) ?_ hb
    rw [Int.mul_right_comm, ← ea]
    exact hle
   ·intro u v hu hv h5 h6
    simp only [tmade, Int.mul_one, Int.add_zero]
    refine ⟨?_, by omega⟩
    rw [ea, Int.mul_right_comm] at h5
    have h7 := le_of_mul h5 hb
    have h8 : s * 1 ≤ s * v := Int.mul_le_mul_of_nonneg_left (by omega) hs0
    omega
  ·rw [← hs] at h4 ⊢
   rw [← hr] at h2 h2' h3 h1
   rw [← hs] at h3
   refine ⟨by simp [tmade]; omega, by simp [tmade], by simp [tmade], ?_, ?_, ?_⟩
   ·simp only [tmade, Int.mul_one, Int.add_zero]
    rw [Int.add_mul, Int.mul_comm s]
    omega
   ·simp only [tmade, Int.mul_one, Int.add_zero]
    rw [Int.add_mul]
    omega
   ·intro u v hu hv h5 h6
    simp only [tmade, Int.mul_one, Int.add_zero]
    refine ⟨?_, by omega⟩
    have h7 : s * v * b < u * b := by
     have e1 : a * v = r * v + s * v * b := by
      rw [← h3, Int.add_mul]
      congr 1
      rw [Int.mul_comm b s, Int.mul_right_comm]
     have : 0 < r * v := Int.mul_pos (by omega) hv
     omega
    have h8 := lt_of_mul h7 hb
    have h9 : s * 1 ≤ s * v := Int.mul_le_mul_of_nonneg_left (by omega) hs0
    omega
  ·have hn := h.next h1
   obtain ⟨k1, k2, k3, k4, k5, k6⟩ := ih _ _ _ _ hn hT
   rw [← hs] at k4
   rw [← hr] at k5
   rw [← hr, ← hs] at k6
   rw [← hs] at h4
   obtain ⟨p, hp⟩ : ∃ p, p = (tmade ts).1 := ⟨_, rfl⟩
   obtain ⟨q, hq⟩ : ∃ q, q = (tmade ts).2 := ⟨_, rfl⟩
   rw [← hp] at k1 k3 k4 k5 k6
   rw [← hq] at k2 k3 k4 k5 k6
   rw [← hr] at h2 h2' h3 h1
   rw [← hs] at h3
   have hsp : 0 ≤ s * p := Int.mul_nonneg hs0 (by omega)
   have e1 : (tmade (a / b :: ts)).1 = s * p + q := by simp only [tmade]; rw [← hp, ← hq, ← hs]
   have e2 : (tmade (a / b :: ts)).2 = p := by simp only [tmade]; rw [← hp]
   rw [e1, e2]
   clear e1 e2 hp hq ih
   refine ⟨by omega, k1, gcd_step k3, ?_, ?_, ?_⟩
   ·
    have e1 : a * p = r * p + s * p * b := by
     rw [← h3, Int.add_mul]
     congr 1
     rw [Int.mul_comm b s, Int.mul_right_comm]
    rw [Int.add_mul, e1, Int.mul_comm r, Int.mul_comm q]
    omega
   ·
    have e1 : p * (c - s * d) = c * p - s * p * d := by
     rw [Int.mul_sub, Int.mul_comm p c, Int.mul_comm p (s * d), Int.mul_right_comm]
    rw [Int.add_mul, Int.mul_comm q]
    omega
   ·intro u v hu hv h5 h6
    have e1 : a * v = r * v + s * v * b := by
     rw [← h3, Int.add_mul]
     congr 1
     rw [Int.mul_comm b s, Int.mul_right_comm]
    have h7 : s * v * b < u * b := by
     have : 0 < r * v := Int.mul_pos (by omega) hv
     omega
    have h8 := lt_of_mul h7 hb
    have g := k6 v (u - s * v) hv (by omega) (by
      rw [Int.mul_sub, Int.mul_sub, Int.mul_comm d u, Int.mul_comm v c]
      have : d * (s * v) = v * (s * d) := by
       rw [Int.mul_comm, Int.mul_comm v, Int.mul_right_comm]
      omega) (by
      rw [Int.mul_sub, Int.mul_comm v r, Int.mul_comm b u, Int.mul_comm b (s * v)]
      omega)
    have h9 : s * p ≤ s * v := Int.mul_le_mul_of_nonneg_left g.1 hs0
    omega
open Go.RowKit Go.Shelf
variable {A : Option Addr} {W W' : World} {a b : Value} {l : List Nat} {m p : Nat}
theorem least_ex {p : Nat → Prop} : ∀ k, p k → ∃ j, p j ∧ ∀ i, p i → j ≤ i := by
 intro k
 induction k using Nat.strongRecOn with
 | _ k ih =>
  intro h
  by_cases hx : ∃ i, p i ∧ i < k
  ·obtain ⟨i, h1, h2⟩ := hx
   exact ih i h2 h1
  ·exact ⟨k, h, fun i hi => Nat.le_of_not_lt fun hlt => hx ⟨i, hi, hlt⟩⟩
open Classical in
noncomputable def minK (p : Nat → Prop) : Nat := if h : ∃ k, p k then Classical.choose (least_ex _ (Classical.choose_spec h)) else 0
theorem minK_at {p : Nat → Prop} (h : ∃ k, p k) : p (minK p) := by
 unfold minK
 rw [dif_pos h]
 exact (Classical.choose_spec (least_ex _ (Classical.choose_spec h))).1
theorem minK_le {p : Nat → Prop} {k : Nat} (h : p k) : minK p ≤ k := by
 unfold minK
 rw [dif_pos ⟨k, h⟩]
 exact (Classical.choose_spec (least_ex _ (Classical.choose_spec (⟨k, h⟩ : ∃ k, p k)))).2 k h
def protO (o : Obj) : Prop := ∃ (cur : Array Value) (T : TypeId) (z : Nat × Nat), o = .cells cur T z ∧ ((∃ (j : Nat) (k : IntKind) (x : Int), cur[j]? = some (Value.int k x)) ∨ T = 35)
def KpT (m : Nat) (W W' : World) : Prop := W.heap.size ≤ W'.heap.size ∧ ∀ i o, W.heap[i]? = some o → (m ≤ i ∨ protO o) → W'.heap[i]? = some o
theorem KpT.trans {A B C : World} (h : KpT m A B) (k : KpT m B C) : KpT m A C :=
 ⟨Nat.le_trans h.1 k.1, fun i o ho hp => k.2 i o (h.2 i o ho hp) hp⟩
theorem KpT.loop {l : Nat} {o : Obj} {st : Loop} (hl : l < m) (h : W.heap[l]? = some (.loop st)) : KpT m W (W.putObj l o) := by
 refine ⟨by simp [World.putObj], fun i u hu hp => ?_⟩
 have hne : i ≠ l := by
  rintro rfl
  rcases hp with hp | ⟨cur, T, z, e, _⟩
  ·omega
  ·rw [h] at hu; injection hu with hu; rw [e] at hu; cases hu
 exact (World.putObj_heap_other hne).trans hu
theorem KpT.ws (k : KpT m W W') (h : WS W A l) : WS W' A l := by
 refine ⟨h.1, fun hl => ?_⟩
 obtain ⟨b, off, e, hlt, hc⟩ := h.2 hl
 have h0 := hc 0 (List.length_pos_iff.2 hl)
 obtain ⟨o, ho⟩ : ∃ o, W.heap[b]? = some o := ⟨_, Array.getElem?_eq_getElem hlt⟩
 have hp : protO o := by
  unfold World.cell? at h0
  rw [ho] at h0
  cases o <;> simp at h0
  rename_i cur T z
  exact ⟨cur, T, z, rfl, .inl ⟨_, _, _, h0⟩⟩
 have h2 := k.2 b o ho (.inr hp)
 exact ⟨b, off, e, Nat.lt_of_lt_of_le hlt k.1, fun j hj => (World.cell?_of_block (h2.trans ho.symm)).trans (hc j hj)⟩
theorem KpT.iv {n : Bool} {c : Nat} {z : Int} (k : KpT m W W') (h : IV W n A c l z) : IV W' n A c l z := ⟨h.cap, k.ws h.ws, h.can, h.val, h.len⟩
theorem KpT.box2 (k : KpT m W W') (h : Box2 W p a b) (hp : m ≤ p) : Box2 W' p a b := k.2 p _ h (.inl hp)
theorem KpT.box4 {a b c d : Value} (k : KpT m W W') (h : Box4 W p a b c d) : Box4 W' p a b c d := k.2 p _ h (.inr ⟨_, _, _, rfl, .inr rfl⟩)
def encI (p q : Nat) (x : Int) (vs : Array Value) (W : World) : Prop := ∃ n A c l, vs = #[.agg #[.bool n, .slice A l.length c]] ∧ IV W n A c l x ∧ Off A l p ∧ Off A l q
def TM (p q : Nat) (J : List Int → Nat → World → Prop) (xs : List Int) (k : Nat) (wr : World) : Prop :=
 ∃ pre ts a b c d m n1 A1 c1 l1 n2 A2 c2 l2 n3 A3 c3 l3 n4 A4 c4 l4, k = ts.length ∧ Hid (xs = pre ++ ts) ∧ Hid (Pos a b c d) ∧ Hid (Terms ts a b c d) ∧ Hid (Lt 10 a ∧ Lt 10 b ∧ Lt 10 c ∧ Lt 10 d) ∧
  Box4 wr p (.bool n1) (.slice A1 (List.length l1) c1) (.bool n2) (.slice A2 (List.length l2) c2) ∧ Box4 wr q (.bool n3) (.slice A3 (List.length l3) c3) (.bool n4) (.slice A4 (List.length l4) c4) ∧
  Hid (IV wr n1 A1 c1 l1 a ∧ IV wr n2 A2 c2 l2 b ∧ IV wr n3 A3 c3 l3 c ∧ IV wr n4 A4 c4 l4 d) ∧ Hid (J pre m wr) ∧ m ≤ wr.heap.size
theorem terms_one {ts : List Int} {a b c d s r u : Int} (h : Terms ts a b c d) (hs : s = a / b) (hr : r = a % b) (hu : u = c - s * d) (h0 : r = 0) : ts = [s] := by
 subst hs hr hu
 cases ts with
 | nil => exact h.elim
 | cons t ts =>
  rcases h with ⟨h1, _, h3⟩ | ⟨_, h2, _⟩ | ⟨h2, _⟩
  ·rw [h1, h3]
  ·exact absurd h0 h2
  ·exact absurd h0 h2
theorem terms_two {ts : List Int} {a b c d s r u : Int} (h : Terms ts a b c d) (hs : s = a / b) (hr : r = a % b) (hu : u = c - s * d) (h0 : r ≠ 0) (h1 : d ≤ u) : ts = [s + 1] := by
 subst hs hr hu
 cases ts with
 | nil => exact h.elim
 | cons t ts =>
  rcases h with ⟨_, h2, _⟩ | ⟨h2, _, _, h3⟩ | ⟨_, h2, _⟩
  ·exact absurd h2 h0
  ·rw [h2, h3]
  ·omega
theorem terms_more {ts : List Int} {a b c d s r u : Int} (h : Terms ts a b c d) (hs : s = a / b) (hr : r = a % b) (hu : u = c - s * d) (h0 : r ≠ 0) (h1 : u < d) : ∃ ts', ts = s :: ts' ∧ Terms ts' d u b r := by
 subst hs hr hu
 cases ts with
 | nil => exact h.elim
 | cons t ts =>
  rcases h with ⟨_, h2, _⟩ | ⟨_, _, h2, _⟩ | ⟨_, _, h3, h4⟩
  ·exact absurd h2 h0
  ·omega
  ·exact ⟨ts, by rw [h3], h4⟩
theorem lt_addS {i : Nat} {x y : Int} (h : Lt i x) (k : Lt i y) : Lt (i + 1) (x + y) := by
 unfold Lt at *
 have h1 := Int.natAbs_add_le x y
 have h4 := BB_succ i
 have h5 := BB_pos i
 omega
theorem box24 {u v a b c d : Value} (h : Box2 W p u v) (k : Box4 W p a b c d) : False := by
 have e := (show W.heap[p]? = _ from h).symm.trans (show W.heap[p]? = _ from k)
 injection e with e
 injection e with e
 have := congrArg Array.size e
 simp at this
def BxAt (w : World) (z : Int) (s : Value) (W : World) : Prop := ∃ p n A c l, s = .pointer (some ⟨p, 0, none⟩) ∧ Box2 W p (.bool n) (.slice A l.length c) ∧ IV W n A c l z ∧ w.heap.size ≤ p ∧ Below w.heap.size w W
theorem terms_gives (n : Nat) (p q : Nat) (hpq : p ≠ q) (W : World) {a b c d : Int} {n1 n2 n3 n4 : Bool} {A1 A2 A3 A4 : Option Addr} {c1 c2 c3 c4 : Nat} {l1 l2 l3 l4 : List Nat} {xs : List Int}
  (hP : Pos a b c d) (hT : Terms xs a b c d) (hL : Lt 10 a ∧ Lt 10 b ∧ Lt 10 c ∧ Lt 10 d) (i1 : IV W n1 A1 c1 l1 a) (i2 : IV W n2 A2 c2 l2 b) (i3 : IV W n3 A3 c3 l3 c) (i4 : IV W n4 A4 c4 l4 d)
  (x0 : Box4 W p (.bool n1) (.slice A1 l1.length c1) (.bool n2) (.slice A2 l2.length c2)) (x1 : Box4 W q (.bool n3) (.slice A3 l3.length c3) (.bool n4) (.slice A4 l4.length c4)) :
  GivesAllM Fence.wide n Tryz.prog 182 #[.pointer (some ⟨p, 0, none⟩), .pointer (some ⟨q, 0, none⟩)] (encI p q) (On2 p q) KpT xs W := fun lp J hJ hY h0 => by
 refine callsIn_wide.2 ?_
 have HY := Hi hY
 have HJ := Hi hJ
 have H0 : TM p q J xs xs.length W := ⟨[], xs, a, b, c, d, W.heap.size, n1, A1, c1, l1, n2, A2, c2, l2, n3, A3, c3, l3, n4, A4, c4, l4, rfl, Hi rfl, Hi hP, Hi hT, Hi hL, x0, x1, Hi ⟨i1, i2, i3, i4⟩, Hi h0, Nat.le_refl _⟩
 clear hY hJ h0 hP hT hL i1 i2 i3 i4 x0 x1 a b c d n1 n2 n3 n4 A1 A2 A3 A4 c1 c2 c3 c4 l1 l2 l3 l4
 go_enter Tryz.func182, Tryz.ntmps182
 go_wp2_with fail
 go_loopw [] (fun wr => ∃ k, TM p q J xs k wr) (fun wr => minK (fun k => TM p q J xs k wr))
 case atStart => exact ⟨_, H0⟩
 case round =>
  clear H0
  obtain ⟨k, hk, hkm⟩ : ∃ k, TM p q J xs k wr ∧ k = minK (fun k => TM p q J xs k wr) := ⟨_, minK_at hrel, rfl⟩
  have HM := Hi hkm
  clear hrel hkm
  obtain ⟨w, hww⟩ : ∃ v, v = wr := ⟨_, rfl⟩
  rw [← hww] at hk HM
  rw [← hww]
  clear hww wr
  obtain ⟨pre, ts, a, b, c, d, m, n1, A1, c1, l1, n2, A2, c2, l2, n3, A3, c3, l3, n4, A4, c4, l4, hkl, HX, HP, HT, HL, x0, x1, HI, HJ0, hm⟩ := hk
  have hw0 : Below w.heap.size w w := b0 w
  have H1 := Hi HI.out.1
  have H2 := Hi HI.out.2.1
  have H3 := Hi HI.out.2.2.1
  have H4 := Hi HI.out.2.2.2
  clear HI
  obtain ⟨s, HS⟩ : ∃ s, Hid (s = a / b) := ⟨_, Hi rfl⟩
  obtain ⟨r, HR⟩ : ∃ r, Hid (r = a % b) := ⟨_, Hi rfl⟩
  obtain ⟨u, HU⟩ : ∃ u, Hid (u = c - s * d) := ⟨_, Hi rfl⟩
  have HB0 : Hid (b ≠ 0) := Hi (by have := HP.out.pb; omega)
  have LS : Hid (Lt 10 s) := Hi (by rw [HS.out]; exact lt_ediv HL.out.1)
  have LR : Hid (Lt 10 r) := Hi (by rw [HR.out]; exact lt_emod HB0.out HL.out.2.1)
  have LM1 : Hid (Lt 2100 (s * d)) := Hi (lt_le (lt_mul LS.out HL.out.2.2.2) (by decide))
  have LU : Hid (Lt 2100 u) := Hi (by rw [HU.out]; exact lt_le (lt_sub HL.out.2.2.1 (lt_mul LS.out HL.out.2.2.2)) (by decide))
  refine g0 ?_
  intros
  refine (Div_iv (H1.out.below hw0) (H2.out.below hw0) HB0.out HS.out.symm HR.out.symm (lt_le LS.out (by decide)) (lt_le LR.out (by decide))).mono ?_
  rintro e w2 ⟨n5, A5, c5, l5, n6, A6, c6, l6, rfl, i5, i6, hb⟩
  replace x0 := x0.below hb
  replace x1 := x1.below hb
  have hw1_ := bt hw0 hb
  clear hb hw0
  have z2 := hw1_.size
  have IT := Hi i5
  have IL := Hi i6
  clear i5 i6
  go_wp2_with fail
  obtain ⟨w3, hw⟩ : ∃ W, W = (w2.alloc (.cells #[.bool n5, .slice A5 l5.length c5] 24)).alloc (.cells #[.bool n6, .slice A6 l6.length c6] 24) := ⟨_, rfl⟩
  have xt : Box2 w3 (w2.heap.size) (.bool n5) (.slice A5 l5.length c5) := by
   rw [hw]
   have h := Box2.new w2 (.bool n5) (.slice A5 l5.length c5)
   exact (h.alloc _)
  have xl : Box2 w3 (w2.heap.size + 1) (.bool n6) (.slice A6 l6.length c6) := by
   rw [hw]
   have h := Box2.new (w2.alloc (.cells #[.bool n5, .slice A5 l5.length c5] 24)) (.bool n6) (.slice A6 l6.length c6)
   rw [World.size_alloc] at h
   exact h
  have hb : Below w2.heap.size w2 w3 := by rw [hw]; exact ba (ba (b0 _) _) _
  rw [← hw]
  clear hw
  replace x0 := x0.below hb
  replace x1 := x1.below hb
  replace IT := Hi (IT.out.below hb)
  replace IL := Hi (IL.out.below hb)
  have hw2_ := bt hw1_ hb
  clear hb hw1_
  have HS5 : Hid (∀ W, Below w3.heap.size w3 W → (W.cell? ⟨q, 0, none⟩ = some (.bool n3) ∧ W.cell? ⟨q, 1, none⟩ = some (.slice A3 l3.length c3) ∧ W.cell? ⟨q, 2, none⟩ = some (.bool n4) ∧ W.cell? ⟨q, 3, none⟩ = some (.slice A4 l4.length c4) ∧ W.cell? ⟨w2.heap.size, 0, none⟩ = some (.bool n5) ∧ W.cell? ⟨w2.heap.size, 1, none⟩ = some (.slice A5 l5.length c5))) := Hi (fun W hb => ⟨cell_below x1.cell0 hb, cell_below x1.cell1 hb, cell_below x1.cell2 hb, cell_below x1.cell3 hb, cell_below xt.cell0 hb, cell_below xt.cell1 hb⟩)
  have HW := Hi hw2_
  have hxs := x0.lt
  have hwle := hw2_.size
  have Gx0 := Hi x0
  have Lx0 := Hi x0.lt
  have Gx1 := Hi x1
  have Lx1 := Hi x1.lt
  have Gxt := Hi xt
  have Lxt := Hi xt.lt
  have Gxl := Hi xl
  have Lxl := Hi xl.lt
  clear x0 x1 xt xl hw2_
  go_cut [7] (fun s wx => BxAt w3 (u) s wx)
  case first =>
   as_aux_lemma =>
   go_region_held3 (fun W => W.cell? ⟨q, 0, none⟩ = some (.bool n3) ∧ W.cell? ⟨q, 1, none⟩ = some (.slice A3 l3.length c3) ∧ W.cell? ⟨q, 2, none⟩ = some (.bool n4) ∧ W.cell? ⟨q, 3, none⟩ = some (.slice A4 l4.length c4) ∧ W.cell? ⟨w2.heap.size, 0, none⟩ = some (.bool n5) ∧ W.cell? ⟨w2.heap.size, 1, none⟩ = some (.slice A5 l5.length c5))
    ((refine HS5.out _ ?_; (repeat (first | assumption | exact b0 _ | apply ba | apply bd | apply bw | (refine bs ?_ (by first | exact Nat.le_refl _ | (dsimp only; omega) | omega) _)))))
    (first
    | (go_at_call 22; refine (Mul_iv (IT.out.below (by repeat (first | assumption | exact b0 _ | apply ba | apply bd | apply bw))) (H4.out.below (bt HW.out (by repeat (first | assumption | exact b0 _ | apply ba | apply bd | apply bw)))) rfl LM1.out).mono ?_; rintro e w6 ⟨n6, A6, c6, l6, rfl, i6, hb6⟩; obtain ⟨hcc6, hff6⟩ := bcell hb6; have hb16 : Below w3.heap.size w3 w6 := bt (by repeat (first | assumption | exact b0 _ | apply ba | apply bd | apply bw)) hb6; have sz6 := hb16.size; have sy6 := hb6.size; (try simp at sy6); (try have sw6 : w3.heap.size < w6.heap.size := by omega); have I6 := Hi i6; clear i6)
    | (go_at_call 20; refine (Sub_iv (H3.out.below (bt HW.out (by repeat (first | assumption | exact b0 _ | apply ba | apply bd | apply bw)))) (I6.out.below (by repeat (first | assumption | exact b0 _ | apply ba | apply bd | apply bw))) HU.out.symm LU.out).mono ?_; rintro e w7 ⟨n7, A7, c7, l7, rfl, i7, hb7⟩; obtain ⟨hcc7, hff7⟩ := bcell hb7; have hb17 : Below w3.heap.size w3 w7 := bt (by repeat (first | assumption | exact b0 _ | apply ba | apply bd | apply bw)) hb7; have sz7 := hb17.size; have sy7 := hb7.size; (try simp at sy7); (try have sw7 : w3.heap.size < w7.heap.size := by omega); (try have su67 : w6.heap.size < w7.heap.size := by omega); have J6_7 := Hi ((I6.out.below (by repeat (first | assumption | exact b0 _ | apply ba | apply bd | apply bw))).below hb7); have I7 := Hi i7; clear i7))
   all_goals (go_wp2_with fail; go_meet)
   all_goals
    have il := I7.out
    have hwl := il.ws
    have gl := fun (p : Nat) (h : Box2 w7 p (.bool false) (.slice none 0 0)) => ws_off_box h (by simp) hwl
    have Gl := fun (p : Nat) (h : w7.heap.size ≤ p) => hwl.off h
    refine ⟨_, n7, A7, c7, l7, rfl, ?_, ⟨il.cap, ?_, il.can, il.val, il.len⟩, ?_, ?_⟩
    ·(repeat (first
     | with_reducible exact hwl
     | (with_reducible refine WS.below ?_ (ba (b0 _) _))
     | (with_reducible refine WS.two ?_ ?_ _ _)
     | (focus ((with_reducible refine Box2.new' ?_); (simp; done)))
     | (with_reducible refine Box2.alloc ?_ _)
     | (with_reducible refine Box2.stored' ?_ _ _)
     | (with_reducible refine Box2.below ?_ hb7)
     | (with_reducible refine Box2.below ?_ hb6)
     | exact Gl _ (by first | exact Nat.le_refl _ | omega)
     | (with_reducible refine gl _ ?_)
     | omega
     | (focus (simp; done))
     | (with_reducible refine Box2.drew' ?_)))
    ·(repeat (first
     | with_reducible exact hwl
     | (with_reducible refine WS.below ?_ (ba (b0 _) _))
     | (with_reducible refine WS.two ?_ ?_ _ _)
     | (focus ((with_reducible refine Box2.new' ?_); (simp; done)))
     | (with_reducible refine Box2.alloc ?_ _)
     | (with_reducible refine Box2.stored' ?_ _ _)
     | (with_reducible refine Box2.below ?_ hb7)
     | (with_reducible refine Box2.below ?_ hb6)
     | exact Gl _ (by first | exact Nat.le_refl _ | omega)
     | (with_reducible refine gl _ ?_)
     | omega
     | (focus (simp; done))
     | (with_reducible refine Box2.drew' ?_)))
    ·omega
    ·repeat (first | exact hb17 | (with_reducible refine ba ?_ _) | (with_reducible refine bs ?_ ?_ _))
     all_goals (first | exact Nat.le_refl _ | (dsimp only; omega) | omega)
  case rest =>
  obtain ⟨xmp, n7, A7, c7, l7, rfl, xm, ia_, hge_, hb⟩ := hcut
  obtain ⟨w4, hwn⟩ : ∃ v, v = wc := ⟨_, rfl⟩
  rw [← hwn] at xm ia_ hb ⊢
  clear hwn wc
  have HIxm := Hi ia_
  have Nx0 : Hid ((p) ≠ xmp) := Hi (by have := Lx0.out; omega)
  have x0 := Gx0.out.below hb
  have Nx1 : Hid ((q) ≠ xmp) := Hi (by have := Lx1.out; omega)
  have x1 := Gx1.out.below hb
  have Nxt : Hid ((w2.heap.size) ≠ xmp) := Hi (by have := Lxt.out; omega)
  have xt := Gxt.out.below hb
  have Nxl : Hid ((w2.heap.size + 1) ≠ xmp) := Hi (by have := Lxl.out; omega)
  have xl := Gxl.out.below hb
  replace IT := Hi (IT.out.below hb)
  replace IL := Hi (IL.out.below hb)
  have xmge : w.heap.size ≤ xmp := by omega
  have hw3_ := bt HW.out hb
  clear ia_ hb hge_ HS5 HW hxs hwle Gx0 Lx0 Gx1 Lx1 Gxt Lxt Gxl Lxl
  refine gli ?_
  intros
  refine (Sign_iv IL.out rfl).mono ?_
  rintro e w5 ⟨rfl, hb⟩
  replace x0 := x0.below hb
  replace x1 := x1.below hb
  replace xt := xt.below hb
  replace xl := xl.below hb
  replace xm := xm.below hb
  replace IT := Hi (IT.out.below hb)
  replace IL := Hi (IL.out.below hb)
  replace HIxm := Hi (HIxm.out.below hb)
  have hw4_ := bt hw3_ hb
  clear hb hw3_
  obtain ⟨Ct0, Ct1⟩ := xt.cs
  by_cases hr0 : r = 0
  ·rw [show cmpI r 0 = 0 by rw [hr0]; rfl]
   have HTS := Hi (terms_one HT.out HS.out HR.out HU.out hr0)
   obtain ⟨fn_, tmps_, assign_, body_, hy_, hR_⟩ := HY.out pre (s) [] (by rw [HX.out, HTS.out]) m w5 _ (HJ.out _ _ _ _ HJ0.out (On2.below (hw4_))) ⟨_, _, _, _, rfl, IT.out, ws_off4 (IV.ws (IT.out)) (x0), ws_off4 (IV.ws (IT.out)) (x1)⟩
   go_upto_region 3 with fail
   refine (wpIn_wide (n := n)).1 ?_
   gi_wp2
   refine ⟨fun h => by simp [Fence.wide] at h, hR_.mono ?_⟩
   rintro e w6 ⟨rfl, hJ1, hk1⟩
   gi_wp2
   go_wp2_with fail
   refine bodyPost_ret (results_none rfl _ _ _) rfl ?_
   exact ⟨⟨_, rfl⟩, _, by rw [HX.out, HTS.out]; exact hJ1⟩
  ·have hsg : cmpI r 0 = 1 := cmpI_pos (by have h1 := Int.emod_nonneg a HB0.out; rw [← HR.out] at h1; omega)
   rw [hsg]
   clear hsg
   refine g1mi ?_
   intros
   refine (Cmp_iv (HIxm.out) (H4.out.below hw4_) rfl).mono ?_
   rintro e w6 ⟨rfl, hb⟩
   replace x0 := x0.below hb
   replace x1 := x1.below hb
   replace xt := xt.below hb
   replace xl := xl.below hb
   replace xm := xm.below hb
   replace IT := Hi (IT.out.below hb)
   replace IL := Hi (IL.out.below hb)
   replace HIxm := Hi (HIxm.out.below hb)
   have hw5_ := bt hw4_ hb
   clear hb hw4_
   by_cases hu0 : d ≤ u
   ·obtain ⟨sg, hsg, hsg0⟩ : ∃ v, cmpI u d = v ∧ 0 ≤ v := ⟨_, rfl, by unfold cmpI; (repeat' split) <;> omega⟩
    rw [hsg]
    clear hsg
    have HTS := Hi (terms_two HT.out HS.out HR.out HU.out hr0 hu0)
    obtain ⟨Ct0, Ct1⟩ := xt.cs
    go_upto_region 5 with fail
    refine (wpIn_wide (n := n)).1 ?_
    have hmx : Tryz.prog.follows .mixedOrders = true := by kernel_rfl
    have HWX := Hi hw5_
    have XT := Hi xt
    have LS1 : Hid (Lt 2100 (s + 1)) := Hi (lt_le (lt_addS LS.out (show Lt 10 1 from lt_le (lt_one (by decide)) (by decide))) (by decide))
    have HNM : Hid ((Fence.wide.depth.isSome = true → 1 ≤ n)) := Hi (fun h => by simp [Fence.wide] at h)
    have X0 := Hi x0
    have X1 := Hi x1
    clear x0 x1 xt xl xm hsg0 hu0 hr0 hw5_
    gi_region_with_o (first
     | (refine ⟨trivial, HNM.out, ?_⟩; gi_at_call 77; refine (callsIn_wide.2 (Of_iv _ 1 (by decide) (by decide))).mono ?_; rintro e w7 ⟨n8, A8, c8, l8, rfl, i8, hb8⟩; have I8 := Hi i8; have K7 := Hi (show Below w6.heap.size w6 w7 from bt (by repeat (first | assumption | exact b0 _ | apply ba | apply bd | apply bw)) hb8); have Ct0 := (XT.out.below K7.out).cell0; have Ct1 := (XT.out.below K7.out).cell1; clear i8 hb8)
     | (refine ⟨trivial, HNM.out, ?_⟩; gi_at_call 18; refine (callsIn_wide.2 (Add_iv (IT.out.below (by repeat (first | assumption | exact b0 _ | apply ba | apply bd | apply bw))) (I8.out.below (by repeat (first | assumption | exact b0 _ | apply ba | apply bd | apply bw))) rfl LS1.out)).mono ?_; rintro e w8 ⟨n9, A9, c9, l9, rfl, i9, hb9⟩; have K8 := Hi (show Below w6.heap.size w6 w8 from bt (by repeat (first | assumption | exact b0 _ | apply ba | apply bd | apply bw)) hb9); obtain ⟨fn_, tmps_, assign_, body_, hy_, hR_⟩ := HY.out pre (s + 1) [] (by rw [HX.out, HTS.out]) m w8 _ (HJ.out _ _ _ _ HJ0.out (On2.below (bt HWX.out K8.out))) ⟨_, _, _, _, rfl, i9, ws_off4 (IV.ws (i9)) (X0.out.below K8.out), ws_off4 (IV.ws (i9)) (X1.out.below K8.out)⟩; clear hb9)
     | (refine ⟨HNM.out, hR_.mono ?_⟩; rintro e w9 ⟨rfl, hJ1, hk1⟩))
    all_goals (go_wp2_with fail; refine bodyPost_ret (results_none rfl _ _ _) rfl ?_; exact ⟨⟨_, rfl⟩, _, by rw [HX.out, HTS.out]; exact hJ1⟩)
   ·have hul : u < d := by omega
    rw [show cmpI u d = -1 by unfold cmpI; rw [if_pos hul]]
    obtain ⟨ts', HTS0, HT2⟩ := terms_more HT.out HS.out HR.out HU.out hr0 hul
    have HTS := Hi HTS0
    have HT' := Hi HT2
    clear HTS0 HT2
    obtain ⟨Ct0, Ct1⟩ := xt.cs
    obtain ⟨fn_, tmps_, assign_, body_, hy_, hR_⟩ := HY.out pre (s) ts' (by rw [HX.out, HTS.out]) m w6 _ (HJ.out _ _ _ _ HJ0.out (On2.below (hw5_))) ⟨_, _, _, _, rfl, IT.out, ws_off4 (IV.ws (IT.out)) (x0), ws_off4 (IV.ws (IT.out)) (x1)⟩
    go_upto_region 6 with fail
    refine (wpIn_wide (n := n)).1 ?_
    gi_wp2
    refine ⟨fun h => by simp [Fence.wide] at h, hR_.mono ?_⟩
    rintro e w7 ⟨rfl, hJ1, hk1⟩
    gi_wp2
    clear hy_ Ct0 Ct1
    have HJ1 := Hi hJ1
    replace x0 := hk1.box4 x0
    replace x1 := hk1.box4 x1
    replace xl := hk1.box2 xl (by omega)
    replace xm := hk1.box2 xm (by omega)
    replace IL := Hi (hk1.iv IL.out)
    replace HIxm := Hi (hk1.iv HIxm.out)
    have J2 := Hi (hk1.iv (H2.out.below hw5_))
    have J4 := Hi (hk1.iv (H4.out.below hw5_))
    clear hJ1 hk1 hw5_ IT xt H1 H2 H3 H4
    have hw7 : Below w7.heap.size w7 w7 := b0 w7
    refine g01 ?_
    intros
    have hxl := xl.lt
    have hxm := xm.lt
    have hnl0 : w2.heap.size + 1 ≠ p := fun e => by rw [e] at xl; exact box24 xl x0
    have hnm0 : xmp ≠ p := fun e => by rw [e] at xm; exact box24 xm x0
    have hnl1 : w2.heap.size + 1 ≠ q := fun e => by rw [e] at xl; exact box24 xl x1
    have hnm1 : xmp ≠ q := fun e => by rw [e] at xm; exact box24 xm x1
    have HF : Hid (TM p q J xs (k - 1) (((((((((w7.setCell ⟨p, 0, none⟩ (.bool n4)).setCell ⟨p, 1, none⟩ (.slice A4 l4.length c4)).setCell ⟨p, 2, none⟩ (.bool n7)).setCell ⟨p, 3, none⟩ (.slice A7 l7.length c7)).setCell ⟨q, 0, none⟩ (.bool n2)).setCell ⟨q, 1, none⟩ (.slice A2 l2.length c2)).setCell ⟨q, 2, none⟩ (.bool n6)).setCell ⟨q, 3, none⟩ (.slice A6 l6.length c6))).drew ∧ k - 1 < k) := by
     have hP := HP.out.next (by rw [← HR.out]; exact hr0)
     rw [← HR.out, ← HS.out, ← HU.out] at hP
     have hl := HTS.out
     rw [hl, List.length_cons] at hkl
     obtain ⟨W8, hW8⟩ : ∃ W, W = ((((w7.setCell ⟨p, 0, none⟩ (.bool n4)).setCell ⟨p, 1, none⟩ (.slice A4 l4.length c4)).setCell ⟨p, 2, none⟩ (.bool n7)).setCell ⟨p, 3, none⟩ (.slice A7 l7.length c7)) := ⟨_, rfl⟩
     obtain ⟨W9, hW9⟩ : ∃ W, W = ((((W8.setCell ⟨q, 0, none⟩ (.bool n2)).setCell ⟨q, 1, none⟩ (.slice A2 l2.length c2)).setCell ⟨q, 2, none⟩ (.bool n6)).setCell ⟨q, 3, none⟩ (.slice A6 l6.length c6)) := ⟨_, rfl⟩
     rw [← hW8, ← hW9]
     have y0 : Box4 W8 p (.bool n4) (.slice A4 l4.length c4) (.bool n7) (.slice A7 l7.length c7) := by rw [hW8]; exact x0.stored _ _ _ _
     have y1 : Box4 W8 q (.bool n3) (.slice A3 l3.length c3) (.bool n4) (.slice A4 l4.length c4) := by rw [hW8]; exact x1.far4 (fun e => hpq e.symm) _ _ _ _
     have z0 : Box4 W9 p (.bool n4) (.slice A4 l4.length c4) (.bool n7) (.slice A7 l7.length c7) := by rw [hW9]; exact y0.far4 hpq _ _ _ _
     have z1 : Box4 W9 q (.bool n2) (.slice A2 l2.length c2) (.bool n6) (.slice A6 l6.length c6) := by rw [hW9]; exact y1.stored _ _ _ _
     have iv8 : ∀ {n A c l z}, IV w7 n A c l z → IV W8 n A c l z := fun h => by rw [hW8]; exact h.four x0 _ _ _ _
     have iv9 : ∀ {n A c l z}, IV W8 n A c l z → IV W9 n A c l z := fun h => by rw [hW9]; exact h.four y1 _ _ _ _
     have o1 : On2 p q w7 W8 := by rw [hW8]; exact On2.only (((((only_refl p w7).set_ (.inl rfl) _).set_ (.inl rfl) _).set_ (.inl rfl) _).set_ (.inl rfl) _)
     have o2 : On2 p q W8 W9 := by rw [hW9]; exact On2.only' (((((only_refl q W8).set_ (.inl rfl) _).set_ (.inl rfl) _).set_ (.inl rfl) _).set_ (.inl rfl) _)
     have o3 : On2 p q W9 W9.drew := On2.below (bw (b0 _))
     have bd9 : Below W9.heap.size W9 W9.drew := bw (b0 _)
     have o := (o1.trans o2).trans o3
     refine ⟨⟨pre ++ [s], ts', d, u, b, r, w7.heap.size, n4, A4, c4, l4, n7, A7, c7, l7, n2, A2, c2, l2, n6, A6, c6, l6, by omega, Hi (by rw [HX.out, hl]; simp), Hi hP, Hi HT'.out, Hi ⟨HL.out.2.2.2, ?_, HL.out.2.1, LR.out⟩, z0.below bd9, z1.below bd9, Hi ⟨(iv9 (iv8 J4.out)).below bd9, (iv9 (iv8 HIxm.out)).below bd9, (iv9 (iv8 J2.out)).below bd9, (iv9 (iv8 IL.out)).below bd9⟩, Hi (HJ.out _ _ _ _ HJ1.out o), o.2.2.2.1⟩, by omega⟩
     have h1 := hP.pb
     have h2 : Lt 10 d := HL.out.2.2.2
     unfold Lt at h2 ⊢
     omega
    obtain ⟨C00, C01, C02, C03⟩ := x0.cs
    obtain ⟨C10, C11, C12, C13⟩ := x1.cs
    obtain ⟨Cl0, Cl1⟩ := xl.cs
    obtain ⟨Cm0, Cm1⟩ := xm.cs
    have f0 := x0.free 0
    have e0 := x1.free 0
    have f1 := x0.free 1
    have e1 := x1.free 1
    have f2 := x0.free 2
    have e2 := x1.free 2
    have f3 := x0.free 3
    have e3 := x1.free 3
    clear J2 J4 HJ1 HJ HX HP HT HT' HTS HL HJ0 IL HIxm HS HR HU HB0 LS LR LM1 LU HY hr0 hul hu0 hkl hxl hxm xmge
    go_region_law fail
    all_goals go_roundw
    all_goals first
     | exact Nat.lt_of_le_of_lt (minK_le HF.out.1) (by rw [← HM.out]; exact HF.out.2)
     | exact ⟨_, HF.out.1⟩
     | exact ⟨_, _, HF.out.1⟩
     | exact ⟨_, _, _, _, _, _, _, _, _, _, _, _, _, _, _, _, _, _, _, _, _, _, _, _, _, _, _, _, _, _, _, _, _, _, _, _, _, _, _, _, _, _, _, _, _, _, _, _, ⟨_, HF.out.1⟩, rfl⟩
     | exact ⟨_, _, _, _, _, _, _, _, _, _, _, _, _, _, _, _, _, _, _, _, _, _, _, _, _, _, _, _, _, _, _, _, _, _, _, _, _, _, _, _, _, _, _, _, _, _, _, _, rfl, _, HF.out.1⟩
open Go.RowKit Go.Shelf
variable {A W W' a0 : World} {base g lb m n p q s : Nat} {v : Value}
attribute [local go_sem] Oper.semAt_some
theorem terms_len : ∀ (k : Nat) (ts : List Int) (a b c d : Int), Pos a b c d → Terms ts a b c d → d < 2 ^ k → ts.length ≤ 2 * k := by
 intro k
 induction k with
 | zero => intro ts a b c d h _ hd; have := h.pd; simp at hd; omega
 | succ k ih =>
  intro ts a b c d h hT hd
  cases ts with
  | nil => exact hT.elim
  | cons t ts =>
   rcases hT with ⟨rfl, _⟩ | ⟨rfl, _⟩ | ⟨h1, h2, _, hT⟩
   ·simp only [List.length_cons, List.length_nil]; omega
   ·simp only [List.length_cons, List.length_nil]; omega
   ·have hn := h.next h1
    cases ts with
    | nil => exact hT.elim
    | cons t2 ts =>
     rcases hT with ⟨rfl, _⟩ | ⟨rfl, _⟩ | ⟨h3, h4, _, hT⟩
     ·simp only [List.length_cons, List.length_nil]; omega
     ·simp only [List.length_cons, List.length_nil]; omega
     ·have hn2 := hn.next h3
      have h5 := hn.pb
      have h6 := Int.emod_lt_of_pos d h5
      have h7 := Int.emod_add_mul_ediv d (c - a / b * d)
      have h8 : 1 ≤ d / (c - a / b * d) := Int.le_ediv_of_mul_le h5 (by omega)
      have h9 : (c - a / b * d) * 1 ≤ (c - a / b * d) * (d / (c - a / b * d)) := Int.mul_le_mul_of_nonneg_left h8 (by omega)
      have := ih ts _ _ _ _ hn2 hT (by rw [Int.pow_succ] at hd; omega)
      simp
      omega
def NoInt (cur : Array Value) : Prop := ∀ (j : Nat) (k : IntKind) (x : Int), cur[j]? ≠ some (Value.int k x)
def IRow (W : World) (base : Nat) (v : Value) (n : Nat) (cs : List Value) : Prop :=
 W.ownsRow base 24 2 v n cs ∧ ∀ g cur e z, v.ownBlock = some g → W.heap[g]? = some (.cells cur e z) → NoInt cur
theorem IRow.same {cs : List Value} (h : IRow W base v n cs) (hk : ∀ g, v.ownBlock = some g → W'.heap[g]? = W.heap[g]?) : IRow W' base v n cs := by
 refine ⟨⟨h.1.1, ?_⟩, fun g cur e z hv hh => h.2 g cur e z hv ((hk g hv).symm.trans hh)⟩
 rcases h.1.2 with h0 | ⟨g, cap, cur, rfl, hb, hg, hr⟩
 ·exact .inl h0
 ·exact .inr ⟨g, cap, cur, rfl, hb, (hk g rfl).trans hg, hr⟩
theorem IRow.below {cs : List Value} (h : IRow W base v n cs) (hb : Below W.heap.size W W') : IRow W' base v n cs :=
 h.same fun g hg => hb.block g (h.1.lt g hg).2
theorem IRow.mono {base b' : Nat} {cs : List Value} (h : IRow W base v n cs) (hb : b' ≤ base) : IRow W b' v n cs := by
 refine ⟨⟨h.1.1, ?_⟩, h.2⟩
 rcases h.1.2 with h0 | ⟨g, cap, cur, rfl, hbb, hr⟩
 ·exact .inl h0
 ·exact .inr ⟨g, cap, cur, rfl, Nat.le_trans hb hbb, hr⟩
theorem IRow.block {cs : List Value} (h : IRow W base v n cs) (hg : v.ownBlock = some g) : ∃ cur, W.heap[g]? = some (.cells cur 24 (0, 0)) ∧ NoInt cur := by
 rcases h.1.2 with ⟨rfl, _⟩ | ⟨g0, cap, cur, rfl, _, hh, _⟩
 ·simp [Value.ownBlock] at hg
 ·simp [Value.ownBlock] at hg
  subst hg
  exact ⟨cur, hh, h.2 _ _ _ _ rfl hh⟩
theorem IRow.nil (W : World) (base : Nat) : IRow W base (.slice none 0 0) 0 [] := ⟨World.ownsRow_nil W base _ 2, fun g cur e z hv => by cases hv⟩
theorem IRow.lt {cs : List Value} (h : IRow W base v n cs) (hg : v.ownBlock = some g) : base ≤ g ∧ g < W.heap.size := h.1.lt g hg
theorem noint_app {a b : Array Value} (ha : NoInt a) (hb : NoInt b) : NoInt (a ++ b) := by
 intro j k x e
 rw [Array.getElem?_append] at e
 split at e
 ·exact ha _ _ _ e
 ·exact hb _ _ _ e
theorem info_I : (Tryz.prog.info? 24).map (fun i => (i.zero, i.size, i.bytes)) = some (some (.agg #[.bool false, .slice none 0 0]), 2, 32) := by kernel_rfl
theorem noint_zero (n : Nat) : NoInt (Builtin.zeroCells (Value.agg #[.bool false, .slice none 0 0]).cells n) := by
 intro j k x e
 unfold Builtin.zeroCells at e
 rw [Array.getElem?_map] at e
 obtain ⟨i, hi, he⟩ := Option.map_eq_some_iff.1 e
 have hc : (Value.agg #[.bool false, .slice none 0 0]).cells = #[.bool false, .slice none 0 0] := rfl
 rw [hc] at he
 have h2 : i % 2 = 0 ∨ i % 2 = 1 := by omega
 rcases h2 with h2 | h2
 ·rw [show (#[Value.bool false, Value.slice none 0 0]).size = 2 from rfl, h2] at he; cases he
 ·rw [show (#[Value.bool false, Value.slice none 0 0]).size = 2 from rfl, h2] at he; cases he
theorem noint_pair (u : Bool) (A : Option Addr) (i d : Nat) : NoInt #[Value.bool u, Value.slice A i d] := by
 intro j k x e
 match j, e with
 | 0, e => simp at e
 | 1, e => simp at e
 | j + 2, e => simp at e
theorem noint_take {cur : Array Value} (h : NoInt cur) (n : Nat) : NoInt (cur.toList.take n).toArray := by
 intro j k x e
 simp only [List.getElem?_toArray, List.getElem?_take] at e
 split at e
 ·exact h j k x (by simpa using e)
 ·cases e
theorem noint_drop {cur : Array Value} (h : NoInt cur) (n : Nat) : NoInt (cur.toList.drop n).toArray := by
 intro j k x e
 simp only [List.getElem?_toArray, List.getElem?_drop] at e
 exact h (n + j) k x (by simpa using e)
theorem append_irow (W : World) (ty : TypeId) (base : Nat) (v : Value) (n : Nat) (cs : List Value) (h : IRow W base v n cs) (ad : Addr) (c : Nat) (u1 : Bool) (A : Option Addr) (i d : Nat)
  (h0 : W.cell? (ad.add 0) = some (.bool u1)) (h1 : W.cell? (ad.add 1) = some (.slice A i d)) (hn : n ≤ 1000000) (hb : base ≤ W.heap.size) :
  ∃ v' w', (Builtin.append_ #[54, 54] ty #[v, .slice (some ad) 1 c]).run Tryz.prog W = .ok v' w' ∧ IRow w' base v' (n + 1) (cs ++ [.bool u1, .slice A i d]) ∧ W.grownBy w' v.ownBlock ∧ (∀ g, v'.ownBlock = some g → v.ownBlock = some g ∨ W.heap.size ≤ g) := by
 have ht : Tryz.prog.underlying 54 = some (.slice 24) := by kernel_rfl
 obtain ⟨i0, hi, hz, hs, hby⟩ := info_parts info_I
 have hnews : ∀ j u, [Value.bool u1, Value.slice A i d][j]? = some u → W.cell? (ad.add j) = some u := by
  intro j u hj
  match j, hj with
  | 0, hj => simp at hj; rw [← hj]; exact h0
  | 1, hj => simp at hj; rw [← hj]; exact h1
  | j + 2, hj => simp at hj
 have hone : ∀ u ∈ [Value.bool u1, Value.slice A i d], u.oneCell' = true := by
  intro u hu
  simp at hu
  rcases hu with rfl | rfl <;> rfl
 obtain ⟨v', w', hr, ho, hg, hnn⟩ := run_append_own (P := Tryz.prog) W base 54 ty 24 i0 _ 2 32 ht hi hz hs hby rfl (by decide) v n cs h.1 ad 1 c [.bool u1, .slice A i d] rfl hnews hone (by simp only [maxLen]; omega) (by omega) hb
 refine ⟨v', w', hr, ⟨ho, ?_⟩, hg, ?_⟩
 ·intro g cur e z hv hh
  rcases h.1.2 with ⟨rfl, rfl⟩ | ⟨g0, cap, cur0, rfl, hbg, hgg, hnc, hcm, hcs, htake⟩
  ·have hx := run_append_nil (P := Tryz.prog) W 54 ty 24 i0 _ ht hi hz ad 1 c [.bool u1, .slice A i d] (by rw [hs]; rfl) hnews (by decide) (by decide) (by rw [hby]; decide)
   rw [hx] at hr
   injection hr with e1 e2
   subst e1 e2
   simp [Value.ownBlock] at hv
   subst hv
   have h2 := heap_alloc_new W.drew (.cells (#[Value.bool u1, .slice A i d] ++ Builtin.zeroCells (Value.agg #[.bool false, .slice none 0 0]).cells (grownCap W 1 0 24 - 1)) 24)
   rw [show W.drew.heap.size = W.heap.size from rfl] at h2
   rw [h2] at hh
   injection hh with hh
   injection hh with hh
   rw [← hh]
   exact noint_app (noint_pair _ _ _ _) (noint_zero _)
  ·by_cases hroom : n + 1 ≤ cap
   ·have hx := run_append_room (P := Tryz.prog) W 54 ty 24 i0 ht hi g0 n cap cur0 hgg ad 1 c [.bool u1, .slice A i d] (by rw [hs]; rfl) hnews hone hroom (by rw [hs, hcs]; simp; omega)
    rw [hx] at hr
    injection hr with e1 e2
    subst e1 e2
    simp [Value.ownBlock] at hv
    subst hv
    rw [setRow_heap W g0 cur0 _ _ _ hgg] at hh
    injection hh with hh
    injection hh with hh
    have hni := h.2 g0 cur0 _ _ rfl hgg
    rw [← hh, ← List.append_toArray, ← List.append_toArray]
    exact noint_app (noint_app (noint_take hni _) (noint_pair _ _ _ _)) (noint_drop hni _)
   ·have holds := h.1.cells (g := g0) rfl
    have hx := run_append_grow (P := Tryz.prog) W 54 ty 24 i0 _ ht hi hz ⟨g0, 0, none⟩ n cap cs (by rw [hs]; exact h.1.1) holds ad 1 c [.bool u1, .slice A i d] (by rw [hs]; rfl) hnews (by omega) (by omega) (growslice_fits (by omega) (by rw [hby]; omega))
    rw [hx] at hr
    injection hr with e1 e2
    subst e1 e2
    simp [Value.ownBlock] at hv
    subst hv
    have h2 := heap_alloc_new W.drew (.cells (cs.toArray ++ #[Value.bool u1, .slice A i d] ++ Builtin.zeroCells (Value.agg #[.bool false, .slice none 0 0]).cells (grownCap W (n + 1) cap 24 - (n + 1))) 24)
    rw [show W.drew.heap.size = W.heap.size from rfl] at h2
    rw [h2] at hh
    injection hh with hh
    injection hh with hh
    rw [← hh]
    have hni := h.2 g0 cur0 _ _ rfl hgg
    rw [← htake]
    exact noint_app (noint_app (noint_take hni _) (noint_pair _ _ _ _)) (noint_zero _)
 ·intro g hv
  rcases h.1.2 with ⟨rfl, rfl⟩ | ⟨g0, cap, cur0, rfl, hbg, hgg, hnc, hcm, hcs, htake⟩
  ·have hx := run_append_nil (P := Tryz.prog) W 54 ty 24 i0 _ ht hi hz ad 1 c [.bool u1, .slice A i d] (by rw [hs]; rfl) hnews (by decide) (by decide) (by rw [hby]; decide)
   rw [hx] at hr
   injection hr with e1 e2
   subst e1
   simp [Value.ownBlock] at hv
   exact .inr (by omega)
  ·by_cases hroom : n + 1 ≤ cap
   ·have hx := run_append_room (P := Tryz.prog) W 54 ty 24 i0 ht hi g0 n cap cur0 hgg ad 1 c [.bool u1, .slice A i d] (by rw [hs]; rfl) hnews hone hroom (by rw [hs, hcs]; simp; omega)
    rw [hx] at hr
    injection hr with e1 e2
    subst e1
    exact .inl hv
   ·have holds := h.1.cells (g := g0) rfl
    have hx := run_append_grow (P := Tryz.prog) W 54 ty 24 i0 _ ht hi hz ⟨g0, 0, none⟩ n cap cs (by rw [hs]; exact h.1.1) holds ad 1 c [.bool u1, .slice A i d] (by rw [hs]; rfl) hnews (by omega) (by omega) (growslice_fits (by omega) (by rw [hby]; omega))
    rw [hx] at hr
    injection hr with e1 e2
    subst e1
    simp [Value.ownBlock] at hv
    exact .inr (by omega)
def Elts (W : World) (p q : Nat) : List Value → List Int → Prop
 | [], [] => True
 | u :: v :: r, z :: zs => (∃ n A c l, u = .bool n ∧ v = .slice A (List.length l) c ∧ IV W n A c l z ∧ Off A l p ∧ Off A l q) ∧ Elts W p q r zs
 | _, _ => False
theorem Elts.map (k : ∀ A l, WS W A l → Off A l p → Off A l q → WS W' A l) : ∀ {cs : List Value} {zs : List Int}, Elts W p q cs zs → Elts W' p q cs zs
 | [], [], _ => trivial
 | u :: v :: r, z :: zs, h => by
  obtain ⟨⟨n, A, c, l, e1, e2, hi, o1, o2⟩, h⟩ := h
  exact ⟨⟨n, A, c, l, e1, e2, ⟨hi.cap, k A l hi.ws o1 o2, hi.can, hi.val, hi.len⟩, o1, o2⟩, Elts.map k h⟩
 | [], _ :: _, h => h.elim
 | [_], _, h => by cases h
 | _ :: _ :: _, [], h => h.elim
theorem Elts.snoc {n : Bool} {A : Option Addr} {c : Nat} {l : List Nat} {z : Int} (hi : IV W n A c l z) (o1 : Off A l p) (o2 : Off A l q) : ∀ {cs : List Value} {zs : List Int}, Elts W p q cs zs → Elts W p q (cs ++ [.bool n, .slice A l.length c]) (zs ++ [z])
 | [], [], _ => ⟨⟨n, A, c, l, rfl, rfl, hi, o1, o2⟩, trivial⟩
 | u :: v :: r, y :: zs, h => ⟨h.1, Elts.snoc hi o1 o2 h.2⟩
 | [], _ :: _, h => h.elim
 | [_], _, h => by cases h
 | _ :: _ :: _, [], h => h.elim
theorem ws_on2 (hb : On2 p q W W') (A : Option Addr) (l : List Nat) (h : WS W A l) (o1 : Off A l p) (o2 : Off A l q) : WS W' A l :=
 ⟨h.1, fun hl => by
  obtain ⟨b, off, e, hlt, hc⟩ := h.2 hl
  refine ⟨b, off, e, Nat.lt_of_lt_of_le hlt hb.2.2.2.1, fun j hj => ?_⟩
  rw [← hc j hj]
  exact World.cell?_of_block (hb.2.2.2.2 b hlt (o1 hl b off e) (o2 hl b off e))⟩
def VBox (W : World) (p : Nat) (v : Value) : Prop := W.heap[p]? = some (.cells #[v] 54 (0, 0))
theorem VBox.cell (h : VBox W p v) : W.cell? ⟨p, 0, none⟩ = some v := by rw [cell_of_row W p 0 _ _ (0, 0) h]; rfl
theorem VBox.free (h : VBox W p v) (i : Nat) : W.frozen? ⟨p, i, none⟩ = false := by
 unfold VBox at h; simp [World.frozen?, h]
theorem VBox.set_ (h : VBox W p v) (x : Value) : VBox (W.setCell ⟨p, 0, none⟩ x) p x := by
 unfold VBox at h ⊢
 simp [World.setCell, Array.getElem?_modify, h]
theorem VBox.lt (h : VBox W p v) : p < W.heap.size := by
 rcases Nat.lt_or_ge p W.heap.size with hlt | hge
 ·exact hlt
 ·unfold VBox at h; rw [Array.getElem?_eq_none hge] at h; cases h
theorem VBox.below (h : VBox W p v) (hb : Below W.heap.size W W') : VBox W' p v := (hb.block p h.lt).trans h
theorem VBox.new (W : World) (v : Value) : VBox (W.alloc (.cells #[v] 54)) W.heap.size v := heap_alloc_new W _
def CI (a0 : World) (p q s lb base : Nat) (pre : List Int) (m : Nat) (W : World) : Prop :=
 ∃ v cs, VBox W s v ∧ IRow W base v pre.length cs ∧ Elts W p q cs pre ∧ (∀ g, v.ownBlock = some g → g < m) ∧ m ≤ W.heap.size ∧ Below a0.heap.size a0 W ∧ lb < m ∧ s < m
theorem CI.on2 {pre : List Int} {A B : World} (h : CI a0 p q s lb base pre m A) (hb : On2 p q A B) (hs1 : s ≠ p) (hs2 : s ≠ q) (h1 : p < base) (h2 : q < base) (hp : a0.heap.size ≤ p) (hq : a0.heap.size ≤ q) : CI a0 p q s lb base pre m B := by
 obtain ⟨v, cs, hv, hr, he, hg, hm, hbl, hl, hsm⟩ := h
 refine ⟨v, cs, (hb.2.2.2.2 s hv.lt hs1 hs2).trans hv, hr.same fun g hgv => ?_, he.map (ws_on2 hb), hg, Nat.le_trans hm hb.2.2.2.1, On2.bt hbl hb hp hq, hl, hsm⟩
 obtain ⟨k1, k2⟩ := hr.lt hgv
 exact hb.2.2.2.2 g k2 (by omega) (by omega)
theorem CI.loop {pre : List Int} {o : Obj} {st : Loop} (h : CI a0 p q s lb base pre m A) (hl : A.heap[lb]? = some (.loop st)) (hs : s ≠ lb) (hb : lb < base) (ha : a0.heap.size ≤ lb) : CI a0 p q s lb base pre m (A.putObj lb o) := by
 obtain ⟨v, cs, hv, hr, he, hg, hm, hbl, hlm, hsm⟩ := h
 have hk := KpT.loop (m := m) (o := o) hlm hl
 refine ⟨v, cs, (World.putObj_heap_other hs).trans hv, hr.same fun g hgv => ?_, he.map (fun A l h _ _ => hk.ws h), hg, Nat.le_trans hm hk.1, bo hbl (only_putObj _ _ _) ha, hlm, hsm⟩
 obtain ⟨k1, k2⟩ := hr.lt hgv
 exact World.putObj_heap_other (by omega)
theorem wpListIn_append_irow {F : Fence} (W : World) {ops : Array Oper} {rest : List Oper} {o : Oper} {a : Act} {Q : Exit → Act → World → Prop}
  (hg : o.guard = none) (s x : Operand) (hop : o.op = Op.call { callee := Callee.builtin Builtin.append, args := #[s, x], argTypes := #[54, 54] })
  (base : Nat) (v : Value) (k : Nat) (cs : List Value) (hs : a.eval s = v) (h : IRow W base v k cs) (ad : Addr) (c : Nat) (u1 : Bool) (A : Option Addr) (i d : Nat) (hx : a.eval x = .slice (some ad) 1 c)
  (h0 : W.cell? (ad.add 0) = some (.bool u1)) (h1 : W.cell? (ad.add 1) = some (.slice A i d)) (hn : k ≤ 1000000) (hb : base ≤ W.heap.size)
  (hK : ∀ v' w', IRow w' base v' (k + 1) (cs ++ [.bool u1, .slice A i d]) → W.grownBy w' v.ownBlock → (∀ g, v'.ownBlock = some g → v.ownBlock = some g ∨ W.heap.size ≤ g) → wpListIn F n Tryz.prog ops Q rest (a.put o.dst v') w') :
  wpListIn F n Tryz.prog ops Q (o :: rest) a W := by
 refine wpListIn_plain hg fun K hK' => ?_
 obtain ⟨v', w', hrun, r1, r2, r3⟩ := append_irow W o.type base v k cs h ad c u1 A i d h0 h1 hn hb
 unfold Oper.wpIn
 refine ⟨?_, ?_⟩
 ·simp [Oper.about, hop, resolve, Target.leads, Sem.run_pure]
 ·rw [Oper.semAt_plain F _ _ (by rw [hop]; intro c hc'; cases hc')]
  simp [execOp, hop, resolve, invoke, builtin, hs, hx, hrun, Result.andThen]
  exact hK' _ _ (hK v' w' r1 r2 r3)
theorem mfda18 {P : Prop} (h : P := by
 refine Eq.trans (World.putObj_heap_other ?_) hbx
 rintro e
 rw [← e, show V.heap[W.heap.size]? = _ from hbx] at hl
 injection hl with hl
 cases hl) : P := h
theorem AppendSeq_terms (a0 w : World) (p q : Nat) (hpq : p ≠ q) (hp : a0.heap.size ≤ p) (hq : a0.heap.size ≤ q) (hba : Below a0.heap.size a0 w) {a b c d : Int} {n1 n2 n3 n4 : Bool} {A1 A2 A3 A4 : Option Addr} {c1 c2 c3 c4 : Nat} {l1 l2 l3 l4 : List Nat} {xs : List Int}
  (hP : Pos a b c d) (hT : Terms xs a b c d) (hL : Lt 10 a ∧ Lt 10 b ∧ Lt 10 c ∧ Lt 10 d) (i1 : IV w n1 A1 c1 l1 a) (i2 : IV w n2 A2 c2 l2 b) (i3 : IV w n3 A3 c3 l3 c) (i4 : IV w n4 A4 c4 l4 d)
  (x0 : Box4 w p (.bool n1) (.slice A1 l1.length c1) (.bool n2) (.slice A2 l2.length c2)) (x1 : Box4 w q (.bool n3) (.slice A3 l3.length c3) (.bool n4) (.slice A4 l4.length c4)) :
  Calls Tryz.prog 181 #[.slice none 0 0, .func (.func 182) #[] #[.pointer (some ⟨p, 0, none⟩), .pointer (some ⟨q, 0, none⟩)]] w fun e w' => ∃ v cs, e = .returned v ∧ IRow w' w.heap.size v xs.length cs ∧ Elts w' p q cs xs ∧ Below a0.heap.size a0 w' := by
 have hpl := x0.lt
 have hql := x1.lt
 have HP := Hi hP
 have HT := Hi hT
 have HL := Hi hL
 have HI := Hi (And.intro i1 (And.intro i2 (And.intro i3 i4)))
 have HXX := Hi (And.intro x0 x1)
 have HBA := Hi hba
 clear hP hT hL i1 i2 i3 i4 x0 x1 hba
 refine (callsIn_wide (n := 5)).1 ?_
 refine callsIn_of_wp_marks Tryz.func181 rfl trivial ?_ rfl
 simp only [Tryz.ntmps181, List.size_toArray, List.length_cons, List.length_nil, Nat.reduceAdd, Nat.reduceSub, Array.replicate_succ, Array.replicate_zero, List.push_toArray, List.append_toArray, List.nil_append, List.cons_append]
 gi_wp2
 obtain ⟨W0, hW0⟩ : ∃ W0, W0 = w.alloc (.cells #[.slice none 0 0] 54) := ⟨_, rfl⟩
 have hsz : W0.heap.size = w.heap.size + 1 := by rw [hW0]; simp
 have hbw : Below w.heap.size w W0 := by rw [hW0]; exact ba (b0 _) _
 have hv0 : VBox W0 w.heap.size (.slice none 0 0) := by rw [hW0]; exact VBox.new _ _
 rw [← hW0]
 clear hW0
 refine range_allM rfl (by decide) (gf := 182) (lb := #[.pointer (some ⟨p, 0, none⟩), .pointer (some ⟨q, 0, none⟩)]) rfl trivial (enters_of Tryz.func182 (by kernel_rfl) rfl)
  (encs := encI p q) (Tn := On2 p q) (Kp := KpT) (xs := xs)
  (fun W hW _ => terms_gives 4 p q hpq W HP.out HT.out HL.out (HI.out.1.below (bt hbw hW)) (HI.out.2.1.below (bt hbw hW)) (HI.out.2.2.1.below (bt hbw hW)) (HI.out.2.2.2.below (bt hbw hW)) (HXX.out.1.below (bt hbw hW)) (HXX.out.2.below (bt hbw hW)))
  (fun x vs W h => by obtain ⟨_, _, _, _, rfl, _⟩ := h; rfl)
  (fun x vs W o st h hl => by obtain ⟨n, A, c, l, rfl, hi, o1, o2⟩ := h; exact ⟨n, A, c, l, rfl, (KpT.loop (m := W0.heap.size + 2) (by omega) hl).iv hi, o1, o2⟩)
  (fun A B hlt hO => ⟨hO.2.2.2.2 _ (by omega) (by omega) (by omega), hO.2.2.2.2 _ (by omega) (by omega) (by omega)⟩)
  (fun h k => h.trans k) (fun m W o st hm hl => KpT.loop hm hl)
  (CI a0 p q w.heap.size (W0.heap.size + 1) (W0.heap.size + 2))
  (fun s m A B h hO => h.on2 hO (by omega) (by omega) (by omega) (by omega) hp hq)
  (fun s m A h => ?hIm)
  (fun s m A o st h hl => h.loop hl (by omega) (by omega) ?ha)
  (fun W hb hs => ⟨.slice none 0 0, [], hv0.below hb, IRow.nil _ _, trivial, (fun g h => by cases h), by omega, ?hbel, by omega, by omega⟩)
  (fun vs W a V => ∃ n A i c, vs = #[.agg #[.bool n, .slice A i c]] ∧ Box2 V W.heap.size (.bool n) (.slice A i c) ∧ a = { tmps := #[.slice none 0 0, .func (.func 182) #[] #[.pointer (some ⟨p, 0, none⟩), .pointer (some ⟨q, 0, none⟩)], .pointer (some ⟨w.heap.size, 0, none⟩), undef, .slice none 0 0, .pointer (some ⟨W.heap.size, 0, none⟩), .func (.func 182) #[] #[.pointer (some ⟨p, 0, none⟩), .pointer (some ⟨q, 0, none⟩)], .agg #[.bool n, .slice A i c], undef, undef, undef, undef, undef], defers := [] })
  (fun s m A B h hb => ?hIw) (fun x vs A B h hb => by obtain ⟨n, A, c, l, rfl, hi, o1, o2⟩ := h; exact ⟨n, A, c, l, rfl, hi.below hb, o1, o2⟩)
  (fun m A B hb => ⟨hb.size, fun i o ho _ => (hb.block i (Array.getElem?_eq_some_iff.1 ho).1).trans ho⟩)
  (fun vs W a V o st h hl => ?hAs) ?assign ?body ?done
 case assign =>
  rintro l x vs W K ⟨n, A, c, l2, rfl, hi, o1, o2⟩ hlt hK
  gi_wp2
  exact hK _ _ (ba (b0 _) _) ⟨n, A, _, c, rfl, Box2.new _ _ _, rfl⟩
 case body =>
  rintro l pre x suf hxs m W V a₁ vs ⟨v, cs, hv, hr, he, hg, hm, hbl, hl, hsm⟩ ⟨n, A, c, l2, rfl, hi, o1, o2⟩ ⟨n', A', i', c', e1, hbx, rfl⟩ hlt hmW hWV
  simp only [Array.mk.injEq, List.cons.injEq, Value.agg.injEq, Value.bool.injEq, Value.slice.injEq, and_true] at e1
  obtain ⟨rfl, rfl, rfl, rfl⟩ := e1
  have hws : w.heap.size < W0.heap.size := by omega
  have HSZ := Hi hsz
  clear hsz
  have cv := hv.cell
  have fv := hv.free 0
  obtain ⟨cx0, cx1⟩ := hbx.cs
  have hk6 : pre.length ≤ 1000000 := by
   have h1 := terms_len 320 xs _ _ _ _ HP.out HT.out ?_
   ·rw [hxs] at h1
    simp at h1
    omega
   ·have h2 := HL.out.2.2.2
    unfold Lt BB at h2
    omega
  have HE := Hi he
  have HR := Hi hr
  have HI2 := Hi hi
  have HG := Hi hg
  clear he hr hi hg
  gi_wp2_with (gi_at_builtin; refine wpListIn_append_irow _ rfl _ _ rfl (W0.heap.size + 2) v pre.length cs rfl (HR.out.below (ba (b0 _) _)) ⟨V.heap.size, 0, none⟩ 1 n A l2.length c rfl ?_ ?_ hk6 ?_ ?_)
  ·simp [Addr.add]
  ·simp [Addr.add]
  ·simp
   omega
  ·intro v2 w2 hr2 hg2 hown2
   obtain ⟨A2, i2, c2, e2⟩ : ∃ A2 i2 c2, v2 = .slice A2 i2 c2 := by
    rcases hr2.1.2 with ⟨h, _⟩ | ⟨g, cap, cur, h, _⟩
    ·exact ⟨_, _, _, h⟩
    ·exact ⟨_, _, _, h⟩
   subst e2
   have hgb : ∀ g, v.ownBlock = some g → W0.heap.size + 2 ≤ g ∧ g < V.heap.size := fun g h => HR.out.lt h
   have hsV := hv.lt
   have keep : ∀ i o, V.heap[i]? = some o → (∀ g, v.ownBlock = some g → i ≠ g) → w2.heap[i]? = some o := by
    intro i o ho hne
    have hi := (Array.getElem?_eq_some_iff.1 ho).1
    have e1 := hg2.block i (by simp; omega) (fun e => hne i e.symm rfl)
    rw [e1]
    exact (Below.heap_alloc _ _ i hi).trans ho
   have hv2 : VBox w2 w.heap.size v := keep _ _ hv (fun g h => by have := hgb g h; omega)
   have cv2 := hv2.cell
   have fv2 := hv2.free 0
   gi_wp2
   obtain ⟨W3, hW3⟩ : ∃ W3, W3 = w2.setCell ⟨w.heap.size, 0, none⟩ (.slice A2 i2 c2) := ⟨_, rfl⟩
   rw [← hW3]
   have hv3 : VBox W3 w.heap.size (.slice A2 i2 c2) := by rw [hW3]; exact hv2.set_ _
   have far : ∀ i, i ≠ w.heap.size → W3.heap[i]? = w2.heap[i]? := fun i hi => by rw [hW3]; exact Below.heap_setCell _ _ _ _ hi
   have hsz3 : W3.heap.size = w2.heap.size := by rw [hW3]; simp [World.setCell]
   have hs2 := hg2.size
   simp at hs2
   have hK : KpT m V W3 := by
    refine ⟨by omega, fun i o ho hp => ?_⟩
    have hne : i ≠ w.heap.size := by
     rintro rfl
     rcases hp with hp | ⟨cur, T, z, e, hp⟩
     ·omega
     ·rw [show V.heap[w.heap.size]? = _ from hv] at ho
      injection ho with ho
      rw [e] at ho
      injection ho with ho ho2 _
      rcases hp with ⟨j, k, x, hj⟩ | hp
      ·rw [← ho] at hj
       match j, hj with
       | 0, hj =>
        simp at hj
        subst hj
        rcases HR.out.1.2 with ⟨h, _⟩ | ⟨_, _, _, h, _⟩ <;> cases h
       | j + 1, hj => simp at hj
      ·rw [hp] at ho2
       exact absurd ho2 (by decide)
    rw [far i hne]
    refine keep i o ho fun g hgv => ?_
    rintro rfl
    rcases hp with hp | ⟨cur, T, z, e, hp⟩
    ·have := HG.out i hgv; omega
    ·obtain ⟨cur', h1, h2⟩ := HR.out.block hgv
     rw [h1] at ho
     injection ho with ho
     rw [e] at ho
     injection ho with ho ho2 _
     rcases hp with ⟨j, k, x, hj⟩ | hp
     ·rw [← ho] at hj
      exact h2 _ _ _ hj
     ·rw [hp] at ho2
      exact absurd ho2 (by decide)
   have hr3 : IRow W3 (W0.heap.size + 2) (.slice A2 i2 c2) (pre.length + 1) (cs ++ [.bool n, .slice A l2.length c]) := hr2.same fun g hg => far g (by have := hr2.lt hg; omega)
   have hbl2 : Below a0.heap.size a0 w2 := by
    refine Below.grown (ba hbl _) hg2 (by simp; have := hbl.size; omega) (fun k e => ?_)
    have := hgb k e
    have := HBA.out.size
    omega
   refine ⟨⟨?_, ?_⟩, hK, .slice A2 i2 c2, cs ++ [.bool n, .slice A l2.length c], hv3, by rw [List.length_append]; exact hr3, Elts.snoc (hK.iv HI2.out) o1 o2 (HE.out.map fun A l h _ _ => hK.ws h), fun g hg => (hr3.lt hg).2, Nat.le_refl _, ?_, by omega, by omega⟩
   ·rw [far _ (by omega)]
    have hlt0 : W0.heap.size < V.heap.size := by omega
    exact (keep _ _ (Array.getElem?_eq_getElem hlt0) (fun g h => by have := hgb g h; omega)).trans (Array.getElem?_eq_getElem hlt0).symm
   ·rw [far _ (by omega)]
    have hlt0 : W0.heap.size + 1 < V.heap.size := by omega
    exact (keep _ _ (Array.getElem?_eq_getElem hlt0) (fun g h => by have := hgb g h; omega)).trans (Array.getElem?_eq_getElem hlt0).symm
   ·rw [hW3]
    exact bs hbl2 (by have := HBA.out.size; omega) _
 case done =>
  rintro m W ⟨v, cs, hv, hr, he, hg, hm, hbl, hl, hsm⟩ hD
  have hws : w.heap.size < W0.heap.size := by omega
  have HSZ := Hi hsz
  clear hsz
  have cv := hv.cell
  gi_wp2
  refine ⟨by simp, .inl ⟨_, _, rfl, run_takeDeferred hD, ?_⟩⟩
  have hO := only_putObj W W0.heap.size (.deferred none)
  have hnd : ∀ b, b = W0.heap.size → ∀ o k x, W.cell? ⟨b, o, none⟩ ≠ some (.int k x) := by
   rintro b rfl o k x e
   simp [World.cell?, hD] at e
  refine ⟨v, by simp [results, Tryz.results181, go_sem], v, cs, rfl, (hr.same fun g h => ?_).mono (by omega), he.map fun A l h _ _ => h.only hO ?_, bo hbl hO (by have := HBA.out.size; omega)⟩
  ·have := hr.lt h
   exact World.putObj_heap_other (by omega)
  ·intro h0 b o e
   obtain ⟨b', o', e', _, hc⟩ := h.2 h0
   rw [e] at e'
   injection e' with e'
   injection e' with e1 _
   subst e1
   intro hb0
   exact hnd b hb0 _ _ _ (hc 0 (List.length_pos_iff.2 h0))
 case hIm =>
  obtain ⟨v, cs, hv, hr, he, hg, hm, hbl, hl, hsm⟩ := h
  exact ⟨hl, hm⟩
 case ha => have := HBA.out.size; omega
 case hbel =>
  have h1 := HBA.out.size
  exact (HBA.out.trans (hbw.mono h1)).trans (hb.mono (by omega))
 case hIw =>
  obtain ⟨v, cs, hv, hr, he, hg, hm, hbl, hl, hsm⟩ := h
  exact ⟨v, cs, hv.below hb, hr.below hb, he.map (fun A l h _ _ => h.below hb), hg, Nat.le_trans hm hb.size, bt hbl hb, hl, hsm⟩
 case hAs =>
  obtain ⟨n, A, i, c, rfl, hbx, rfl⟩ := h
  refine ⟨n, A, i, c, rfl, ?_, rfl⟩
  exact mfda18
end Go.Proofs.YtgljdfblgpdaaaaGreatDoor
