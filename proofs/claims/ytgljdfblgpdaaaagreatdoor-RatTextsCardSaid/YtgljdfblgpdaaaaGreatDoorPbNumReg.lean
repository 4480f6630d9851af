import Derived.Deep.RegionHeld3
import Derived.StillTail
import Derived.Lib.Hide
set_option linter.unusedSimpArgs false
set_option linter.unusedVariables false
set_option maxRecDepth 100000
set_option maxHeartbeats 4000000
namespace Go.Proofs.YtgljdfblgpdaaaaGreatDoor
open Go
variable {f i id j n : Nat} {v : Value} {w : World}
def HT (P : Program) (ops : Array Oper) (t : List Oper) (Q : Exit → Act → World → Prop) : Exit → Act → World → Prop
 | .normal, a, w => wpList P ops Q t a w
 | e, a, w => Q e a w
def headB (md : Region.Mode) (h t : List Oper) : Bool :=
 (List.range h.length).all (fun j => (h[j]?).all fun o => o.guard.isNone && o.after.all fun e => !Region.binds md e || decide (e.on < j))
def sink1B (md : Region.Mode) (ops : Array Oper) (n i0 : Nat) : Bool :=
 (List.range n).all fun i => i == i0 || (List.range (n + 1)).any fun j => decide (i < j) && Region.waitsFor md ops j i
def tailB (md : Region.Mode) (i0 : Nat) (h t : List Oper) : Bool :=
 decide (0 < t.length) && sink1B md (h ++ t).toArray h.length i0 && Region.chainB md (h ++ t).toArray h.length &&
 Region.seqB md (h ++ t).toArray t.length h.length (List.replicate h.length true ++ List.replicate t.length false).toArray
theorem tail_waits1 {md : Region.Mode} {ops : Array Oper} {n i0 : Nat} {listed : Array Bool} (hs : sink1B md ops n i0 = true) (hc : Region.chainB md ops n = true) (hn : n < ops.size) (inv : HeadInv md ops n listed) (h0 : listed.getD i0 true = true) :
  ∀ (d i : Nat), n - i = d → i < n → listed.getD i true = false → ∀ t, n ≤ t → t ∉ Region.ready md ops listed := by
 intro d
 induction d using Nat.strongRecOn with
 | _ d ih =>
  intro i hd hi hun t ht hr
  obtain ⟨_, ot, hot, hall⟩ := mem_ready.1 hr
  have htlt : t < ops.size := (Array.getElem?_eq_some_iff.1 hot).1
  rcases Nat.eq_or_lt_of_le ht with rfl | htn
  ·have h1 := List.all_eq_true.1 hs i (List.mem_range.2 hi)
   rw [Bool.or_eq_true] at h1
   rcases h1 with h1 | h1
   ·rw [← (beq_iff_eq.1 h1 : i = i0), hun] at h0; cases h0
   obtain ⟨j, hj, hj2⟩ := List.any_eq_true.1 h1
   simp only [Bool.and_eq_true, decide_eq_true_eq] at hj2
   obtain ⟨oj, hoj, e, he, hb, hon⟩ := Region.waitsFor_spec hj2.2
   have hjle : j ≤ n := by have := List.mem_range.1 hj; omega
   rcases Nat.eq_or_lt_of_le hjle with rfl | hjn
   ·have : oj = ot := Option.some.inj (hoj.symm.trans hot)
    subst this
    have h2 := hall e he hb
    rw [hon, getD_both hun] at h2
    cases h2
   ·cases hl : listed.getD j false with
    | true =>
     have h2 := inv.closed j oj hoj hl e he hb
     rw [hon, getD_both hun] at h2
     cases h2
    | false => exact ih (n - j) (by omega) j rfl hjn (getD_in (by rw [inv.size]; omega) hl) n (Nat.le_refl _) hr
  ·have h1 := List.all_eq_true.1 hc t (List.mem_range.2 htlt)
   simp only [Bool.or_eq_true, decide_eq_true_eq] at h1
   rcases h1 with h1 | h1
   ·omega
   ·obtain ⟨o', ho', e, he, hb, hon⟩ := Region.waitsFor_spec h1
    have : o' = ot := Option.some.inj (ho'.symm.trans hot)
    subst this
    have h2 := hall e he hb
    rw [hon, getD_both (inv.tail (t - 1) (by omega) (by omega))] at h2
    cases h2
theorem getD_set_up {listed : Array Bool} (h : listed.getD j true = true) : (listed.setIfInBounds i true).getD j true = true := by
 by_cases hij : i = j
 ·subst hij
  rcases Nat.lt_or_ge i listed.size with h1 | h1
  ·simp [Array.getD_eq_getD_getElem?, Array.getElem?_setIfInBounds_self_of_lt h1]
  ·simp [Array.getD_eq_getD_getElem?, h1]
 ·rw [getD_set_ne _ hij]; exact h
section
variable {P : Program} {i0 : Nat} {Q : Exit → Act → World → Prop} {md : Region.Mode} {h t : List Oper}
theorem ht_lets {ops : Array Oper} (hl : LetsOut (HT P ops t Q)) : LetsOut Q := hl
theorem maa034 {P : Prop} (h : P := by
 unfold Oper.wp at *
 generalize (execOp a.eval o).run P w = r at *
 cases r with
 | ok n w' =>
  cases n <;> simp only [Oper.upon] at hh ⊢ <;>
   first
    | exact hh
    | exact Calls.mono hh (fun e w'' he => by cases e <;> exact he)
 | halt x w' => cases x <;> simp only [Oper.upon] at hh ⊢ <;> exact hh) : P := h
theorem ht_wp {ops : Array Oper} {o : Oper} {a : Act} {K : Act → World → Prop} (hh : o.wp P a w K (HT P ops t Q)) : o.wp P a w K Q := by
 exact maa034
theorem ht_op {ops : Array Oper} (hg : headB md h t = true) (hi : i < h.length) {K : Act → World → Prop} {a : Act} 
  (hh : wpOp P h.toArray (HT P ops t Q) i K a w) : wpOp P (h ++ t).toArray Q i K a w := by
 have h1 : h[i]? = some h[i] := List.getElem?_eq_getElem hi
 have h2 : (h ++ t)[i]? = some h[i] := by rw [List.getElem?_append_left hi]; exact h1
 have h3 := List.all_eq_true.1 hg i (List.mem_range.2 hi)
 rw [h1] at h3
 simp only [Option.all_some, Bool.and_eq_true, Option.isNone_iff_eq_none] at h3
 unfold wpOp at *
 simp only [List.getElem?_toArray, h1, h2] at hh ⊢
 simp only [Region.wanted, h3.1, if_true] at hh ⊢
 rcases hh with hh | ⟨hh, hl⟩
 ·exact .inl (ht_wp hh)
 ·exact .inr ⟨hh, ht_lets hl⟩
structure Both (h t : List Oper) (L L' : Array Bool) : Prop where
 size' : L'.size = h.length
 same : ∀ j, j < h.length → L.getD j true = L'.getD j true
 tail : ∀ j, h.length ≤ j → L.getD j false = false
theorem Both.same' {L L' : Array Bool} (b : Both h t L L') (inv : HeadInv md (h ++ t).toArray h.length L) (j : Nat) : L.getD j false = L'.getD j false := by
 have hs := inv.size
 have hs' := b.size'
 simp only [List.size_toArray, List.length_append] at hs
 rcases Nat.lt_or_ge j h.length with hj | hj
 ·have h1 := b.same j hj
  rw [Array.getD_eq_getD_getElem?, Array.getD_eq_getD_getElem?] at h1 ⊢
  rw [Array.getElem?_eq_getElem (by omega), Array.getElem?_eq_getElem (by omega)] at h1 ⊢
  exact h1
 ·rw [b.tail j hj, Array.getD_eq_getD_getElem?, Array.getElem?_eq_none (by omega)]; rfl
theorem Both.ready {L L' : Array Bool} (b : Both h t L L') (inv : HeadInv md (h ++ t).toArray h.length L) (hi : i < h.length) :
  i ∈ Region.ready md (h ++ t).toArray L ↔ i ∈ Region.ready md h.toArray L' := by
 rw [mem_ready, mem_ready, b.same i hi]
 simp only [List.getElem?_toArray, List.getElem?_append_left hi, b.same' inv]
theorem Both.lt {L L' : Array Bool} (b : Both h t L L') (hi : i ∈ Region.ready md h.toArray L') : i < h.length := by
 obtain ⟨h1, _⟩ := mem_ready.1 hi
 rcases Nat.lt_or_ge i h.length with h2 | h2
 ·exact h2
 ·rw [Array.getD_eq_getD_getElem?, Array.getElem?_eq_none (by rw [b.size']; exact h2)] at h1; cases h1
theorem Both.set {L L' : Array Bool} (b : Both h t L L') (inv : HeadInv md (h ++ t).toArray h.length L) (hi : i < h.length) : Both h t (L.setIfInBounds i true) (L'.setIfInBounds i true) := by
 have hs := inv.size
 have hs' := b.size'
 simp only [List.size_toArray, List.length_append] at hs
 refine ⟨by simp [b.size'], fun j hj => ?_, fun j hj => by rw [getD_set_ne _ (by omega)]; exact b.tail j hj⟩
 by_cases hij : i = j
 ·subst hij
  simp only [Array.getD_eq_getD_getElem?]
  rw [Array.getElem?_setIfInBounds_self_of_lt (by omega), Array.getElem?_setIfInBounds_self_of_lt (by omega)]
 ·rw [getD_set_ne _ hij, getD_set_ne _ hij]; exact b.same j hj
theorem all_up (hg : headB md h t = true) {L L' : Array Bool} (b : Both h t L L') (he : Region.ready md h.toArray L' = []) : ∀ j, j < h.length → L'.getD j true = true := by
 intro j
 induction j using Nat.strongRecOn with
 | _ j ih =>
  intro hj
  cases hl : L'.getD j true with
  | true => rfl
  | false =>
   have h1 : h[j]? = some h[j] := List.getElem?_eq_getElem hj
   have h3 := List.all_eq_true.1 hg j (List.mem_range.2 hj)
   rw [h1] at h3
   simp only [Option.all_some, Bool.and_eq_true, Option.isNone_iff_eq_none] at h3
   have hr : j ∈ Region.ready md h.toArray L' := mem_ready.2 ⟨hl, h[j], by simp, fun e he hb => by
    have h4 := Array.all_eq_true'.1 h3.2 e he
    simp only [hb, Bool.not_true, Bool.false_or, decide_eq_true_eq] at h4
    have h5 := ih e.on h4 (by omega)
    have hs' := b.size'
    rw [Array.getD_eq_getD_getElem?, Array.getElem?_eq_getElem (by omega)] at h5 ⊢
    exact h5⟩
   rw [he] at hr
   cases hr
theorem seq_more {ops : Array Oper} {Q' : Exit → Act → World → Prop} (f : Nat) : ∀ (l : List Oper) (k : Nat) (listed : Array Bool) (a : Act) (w : World), (∀ j, l[j]? = ops[k + j]?) →
  Region.seqB md ops l.length k listed = true → wpList P ops Q' l a w → wpAny P md ops Q' (f + l.length) listed a w
 | [], _, listed, a, w, _, hB, h => by
  have hr : Region.ready md ops listed = [] := by simpa [Region.seqB] using hB
  cases f with
  | zero => exact ⟨hr, h⟩
  | succ f => exact ⟨fun _ => h, fun i hi => by rw [hr] at hi; cases hi⟩
 | o :: l, k, listed, a, w, hl, hB, h => by
  have h0 : ops[k]? = some o := by simpa using (hl 0).symm
  simp only [List.length_cons, Region.seqB, Bool.and_eq_true, decide_eq_true_eq] at hB
  rw [List.length_cons, ← Nat.add_assoc]
  refine ⟨fun h1 => (by rw [hB.1] at h1; cases h1), fun i hi => ?_⟩
  rw [hB.1] at hi
  have hik : i = k := by simpa using hi
  subst hik
  have hw : wpOp P ops Q' i (wpList P ops Q' l) a w := by unfold wpOp; simp only [h0]; exact h
  exact wpOp_mono (fun a' w' h' => seq_more f l (i + 1) _ a' w' (fun j => by have := hl (j + 1); simpa [Nat.add_assoc, Nat.add_comm 1 j] using this) hB.2 h') hw
theorem mbdd91 {P : Prop} (h : P := by
 have hsz := inv.size
 simp only [List.size_toArray, List.length_append] at hsz
 refine Array.ext (by simp [hsz]) fun i h1 h2 => ?_
 rcases Nat.lt_or_ge i h.length with hi | hi
 ·have h3 := (b.same i hi).trans (up i hi)
  rw [Array.getD_eq_getD_getElem?, Array.getElem?_eq_getElem h1] at h3
  simp [List.getElem_append, hi]
  exact h3
 ·have h3 := b.tail i hi
  rw [Array.getD_eq_getD_getElem?, Array.getElem?_eq_getElem h1] at h3
  simp [List.getElem_append, Nat.not_lt.2 hi]
  exact h3) : P := h
theorem mcb3e5 {P : Prop} (h : P := by
 rcases Nat.lt_or_ge j h.length with h1 | h1
 ·exact h1
 ·exact absurd hj (tail_waits1 hs hc hn inv hi0 _ i rfl hil (mem_ready.1 hir).1 j h1)) : P := h
theorem head_any (hg : headB md h t = true) (ht : tailB md i0 h t = true) : ∀ (f : Nat) (L L' : Array Bool) (a : Act) (w : World), Both h t L L' → HeadInv md (h ++ t).toArray h.length L → L.getD i0 true = true →
  wpAny P md h.toArray (HT P (h ++ t).toArray t Q) f L' a w → wpAny P md (h ++ t).toArray Q (f + t.length) L a w := by
 simp only [tailB, Bool.and_eq_true, decide_eq_true_eq] at ht
 obtain ⟨⟨⟨h0, hs⟩, hc⟩, hq⟩ := ht
 have hn : h.length < (h ++ t).toArray.size := by simp; omega
 intro f
 have done : ∀ (f : Nat) (L L' : Array Bool) (a : Act) (w : World), Both h t L L' → HeadInv md (h ++ t).toArray h.length L → Region.ready md h.toArray L' = [] →
   wpList P (h ++ t).toArray Q t a w → wpAny P md (h ++ t).toArray Q (f + t.length) L a w := fun f L L' a w b inv he hw => by
  have up := all_up hg b he
  have hL : L = (List.replicate h.length true ++ List.replicate t.length false).toArray := by
   exact mbdd91
  rw [← hL] at hq
  exact seq_more f t h.length L a w (fun j => by simp [List.getElem?_append_right]) hq hw
 induction f with
 | zero =>
  intro L L' a w b inv _ H
  exact done 0 L L' a w b inv H.1 H.2
 | succ f ih =>
  intro L L' a w b inv hi0 H
  by_cases he : Region.ready md h.toArray L' = []
  ·exact done (f + 1) L L' a w b inv he (H.1 he)
  ·obtain ⟨i, hi⟩ := List.exists_mem_of_ne_nil _ he
   have hil := b.lt hi
   have hir := (b.ready inv hil).2 hi
   rw [show f + 1 + t.length = (f + t.length) + 1 by omega]
   refine ⟨fun h1 => (by rw [h1] at hir; cases hir), fun j hj => ?_⟩
   have hjl : j < h.length := by
    exact mcb3e5
   refine ht_op hg hjl (wpOp_mono (fun a' w' h' => ih _ _ a' w' (b.set inv hjl) (inv.set hj hjl) (getD_set_up hi0) h') (H.2 j ((b.ready inv hjl).1 hj)))
theorem m04ab9 {P : Prop} (h : P := by
 exact ⟨by simp, fun j oj _ hl => (by rw [getD_replicate_false] at hl; cases hl), fun t _ ht => getD_in (by simpa using ht) (getD_replicate_false _ _)⟩) : P := h
theorem wp_region_cut {a : Act} {l : List Oper} (n i0 : Nat) (S : World → Prop) {o : Oper} (hm : P.follows .mixedOrders = true) (hn : i0 < n ∧ n < l.length)
  (hg : headB .any (l.take n) (l.drop n) = true) (ht : tailB .any i0 (l.take n) (l.drop n) = true)
  (ho : l.toArray[i0]? = some o) (hs : Region.noSelect l.toArray = true) (hf : Region.free .any l.toArray (Array.replicate l.length false) i0 = true)
  (hr : (Region.ready .any l.toArray (Array.replicate l.length false)).contains i0 = true)
  (hQ : ∀ c a w, Q (.panic c) (a.put o.dst v) w → Q (.panic c) a w) (hy : Yields P l.toArray o v a) (hS : S w.drew)
  (H : S w.drew → wpAnyH P .any (l.take n).toArray (HT P l.toArray (l.drop n) Q) S (n - 1) ((Array.replicate n false).setIfInBounds i0 true) (a.put o.dst v) w.drew) : (Code.region id l.toArray true).wp P Q a w := by
 refine wp_region_any hm ?_
 have hl : (l.take n).length = n := by simp; omega
 have e1 : l.take n ++ l.drop n = l := List.take_append_drop n l
 have hr' : i0 ∈ Region.ready .any l.toArray (Array.replicate l.length false) := by simpa using hr
 have inv0 : HeadInv .any (l.take n ++ l.drop n).toArray (l.take n).length (Array.replicate l.length false) := by
  rw [e1, hl]
  exact m04ab9
 have b0 : Both (l.take n) (l.drop n) (Array.replicate l.length false) (Array.replicate n false) :=
  ⟨by simp [hl], fun j hj => by
   rw [hl] at hj
   simp only [Array.getD_eq_getD_getElem?]
   rw [Array.getElem?_eq_getElem (by simp; omega), Array.getElem?_eq_getElem (by simp; omega)]; simp, fun j _ => getD_replicate_false _ _⟩
 have h1 := head_any (Q := Q) hg ht (n - 1) _ _ (a.put o.dst v) w.drew (b0.set inv0 (by rw [hl]; exact hn.1)) (inv0.set (by rw [e1]; exact hr') (by rw [hl]; exact hn.1))
  (by rw [Array.getD_eq_getD_getElem?, Array.getElem?_setIfInBounds_self_of_lt (by simp; omega)]; rfl)
  (by rw [e1]; exact wpAny_of_held _ _ _ _ (H hS))
 rw [e1] at h1
 have h2 := wpAny_take ho hs hf hr hQ hy h1
 have e2 : n - 1 + (l.drop n).length + 1 = l.toArray.size := by simp; omega
 rw [e2] at h2
 simpa using h2
end
open Go
variable {f i id j n : Nat} {v : Value} {w : World}
def unl (L : Array Bool) : Nat := (L.toList.filter (fun b => !b)).length
theorem filter_set : ∀ (l : List Bool) (i : Nat), l.getD i true = false → ((l.set i true).filter (fun b => !b)).length + 1 = (l.filter (fun b => !b)).length
 | [], i, h => by simp at h
 | b :: r, 0, h => by
  simp at h
  subst h
  simp
 | b :: r, i + 1, h => by
  have h' : r.getD i true = false := by simpa using h
  have ih := filter_set r i h'
  cases b
  ·simp at ih ⊢; omega
  ·simpa using ih
theorem unl_set {L : Array Bool} (h : L.getD i true = false) : unl (L.setIfInBounds i true) + 1 = unl L := by
 unfold unl
 rw [Array.toList_setIfInBounds]
 refine filter_set _ _ ?_
 rw [Array.getD_eq_getD_getElem?] at h
 simpa [List.getD_eq_getElem?_getD] using h
theorem unl_zero {L : Array Bool} (h : unl L = 0) (i : Nat) : L.getD i true = true := by
 unfold unl at h
 have h1 : ∀ b ∈ L.toList, b = true := by simpa [List.filter_eq_nil_iff] using List.eq_nil_of_length_eq_zero h
 rw [Array.getD_eq_getD_getElem?]
 rcases Nat.lt_or_ge i L.size with hi | hi
 ·rw [Array.getElem?_eq_getElem hi]
  exact h1 _ (by simp)
 ·rw [Array.getElem?_eq_none hi]; rfl
section
variable {P : Program} {ops : Array Oper} {Q : Exit → Act → World → Prop} {md : Region.Mode} {S : World → Prop}
theorem wpAnyH_inv0 (I : Array Bool → Act → World → Prop)
  (hstep : ∀ L a w i, I L a w → i ∈ Region.ready md ops L → wpOp P ops Q i (fun a' w' => S w' ∧ I (L.setIfInBounds i true) a' w') a w)
  (hend : ∀ L a w, I L a w → Region.ready md ops L = [] → Q .normal a w) :
  ∀ (f : Nat) (L : Array Bool) (a : Act) (w : World), unl L ≤ f → I L a w → wpAnyH P md ops Q S f L a w := by
 intro f
 induction f with
 | zero =>
  intro L a w hf hI
  have hr : Region.ready md ops L = [] := by
   refine List.eq_nil_iff_forall_not_mem.2 (fun i hi => ?_)
   have h1 := (mem_ready.1 hi).1
   rw [unl_zero (by omega)] at h1
   cases h1
  exact ⟨hr, hend _ _ _ hI hr⟩
 | succ f ih =>
  intro L a w hf hI
  refine ⟨fun hr => hend _ _ _ hI hr, fun i hi => ?_⟩
  have h1 := unl_set (mem_ready.1 hi).1
  exact wpOp_mono (fun a' w' h => ⟨h.1, ih _ _ _ (by omega) h.2⟩) (hstep _ _ _ _ hI hi)
theorem wpAnyH_inv (I : Act → Array Bool → Act → World → Prop) {L0 : Array Bool} {a0 : Act} {w0 : World} (hf : unl L0 ≤ f) (h0 : I a0 L0 a0 w0)
  (hstep : ∀ L a w i, I a0 L a w → i ∈ Region.ready md ops L → ∀ K : Act → World → Prop, RowKit.Hid (∀ a' w', S w' → I a0 (L.setIfInBounds i true) a' w' → K a' w') → wpOp P ops Q i K a w)
  (hend : ∀ L a w, I a0 L a w → Region.ready md ops L = [] → Q .normal a w) : wpAnyH P md ops Q S f L0 a0 w0 :=
 wpAnyH_inv0 (I a0) (fun L a w i h hi => hstep L a w i h hi _ (Lib.hid (fun _ _ hS hI => ⟨hS, hI⟩))) hend f L0 a0 w0 hf h0
theorem ready_edge {L : Array Bool} {o : Oper} (hi : i ∈ Region.ready md ops L) (ho : ops[i]? = some o) (he : (o.after.any fun e => Region.binds md e && e.on == j) = true) : L.getD j false = true := by
 obtain ⟨_, o', ho', h⟩ := mem_ready.1 hi
 obtain rfl : o' = o := Option.some.inj (ho'.symm.trans ho)
 obtain ⟨e, he1, he2⟩ := Array.any_eq_true'.1 he
 simp only [Bool.and_eq_true, beq_iff_eq] at he2
 rw [← he2.2]
 exact h e he1 he2.1
theorem wpOp_do {o : Oper} {a : Act} {K : Act → World → Prop} (ho : ops[i]? = some o) (hg : o.guard = none) (h : o.wp P a w K Q) : wpOp P ops Q i K a w := by
 unfold wpOp
 simp only [ho, Region.wanted, hg, if_true]
 exact .inl h
end
open Go
variable {f i id j n : Nat} {v : Value} {w : World}
def HTH (P : Program) (md : Region.Mode) (ops : Array Oper) (f : Nat) (L : Array Bool) (S : World → Prop) (Q : Exit → Act → World → Prop) : Exit → Act → World → Prop
 | .normal, a, w => wpAnyH P md ops Q S f L a w
 | e, a, w => Q e a w
section
variable {P : Program} {i0 : Nat} {Q : Exit → Act → World → Prop} {md : Region.Mode} {h t : List Oper} {S0 S : World → Prop}
theorem hth_wp {ops : Array Oper} {L : Array Bool} {o : Oper} {a : Act} {K : Act → World → Prop} (hh : o.wp P a w K (HTH P md ops f L S0 Q)) : o.wp P a w K Q := by
 exact maa034
theorem hth_lets {ops : Array Oper} {L : Array Bool} (hl : LetsOut (HTH P md ops f L S0 Q)) : LetsOut Q := hl
theorem hth_op {ops : Array Oper} {L : Array Bool} (hg : headB md h t = true) (hi : i < h.length) {K : Act → World → Prop} {a : Act} 
  (hh : wpOp P h.toArray (HTH P md ops f L S0 Q) i K a w) : wpOp P (h ++ t).toArray Q i K a w := by
 have h1 : h[i]? = some h[i] := List.getElem?_eq_getElem hi
 have h2 : (h ++ t)[i]? = some h[i] := by rw [List.getElem?_append_left hi]; exact h1
 have h3 := List.all_eq_true.1 hg i (List.mem_range.2 hi)
 rw [h1] at h3
 simp only [Option.all_some, Bool.and_eq_true, Option.isNone_iff_eq_none] at h3
 unfold wpOp at *
 simp only [List.getElem?_toArray, h1, h2] at hh ⊢
 simp only [Region.wanted, h3.1, if_true] at hh ⊢
 rcases hh with hh | ⟨hh, hl⟩
 ·exact .inl (hth_wp hh)
 ·exact .inr ⟨hh, hth_lets hl⟩
theorem wpAnyH_fuel {ops : Array Oper} : ∀ (f : Nat) (L : Array Bool) (a : Act) (w : World), wpAnyH P md ops Q S f L a w → wpAnyH P md ops Q S (f + 1) L a w := by
 intro f
 induction f with
 | zero =>
  intro L a w H
  exact ⟨fun _ => H.2, fun i hi => by rw [H.1] at hi; cases hi⟩
 | succ f ih =>
  intro L a w H
  exact ⟨H.1, fun i hi => wpOp_mono (fun a' w' h' => ⟨h'.1, ih _ _ _ h'.2⟩) (H.2 i hi)⟩
theorem wpAnyH_fuels {ops : Array Oper} (f k : Nat) {L : Array Bool} {a : Act} (H : wpAnyH P md ops Q S f L a w) : wpAnyH P md ops Q S (k + f) L a w := by
 induction k with
 | zero => rwa [Nat.zero_add]
 | succ k ih => rw [show k + 1 + f = (k + f) + 1 by omega]; exact wpAnyH_fuel _ _ _ _ ih
theorem head_anyH (hSS : ∀ w, S w → S0 w) (hg : headB md h t = true) (ht : tailB md i0 h t = true) : ∀ (f : Nat) (L L' : Array Bool) (a : Act) (w : World), Both h t L L' → HeadInv md (h ++ t).toArray h.length L → L.getD i0 true = true →
  wpAnyH P md h.toArray (HTH P md (h ++ t).toArray t.length (List.replicate h.length true ++ List.replicate t.length false).toArray S0 Q) S f L' a w → wpAnyH P md (h ++ t).toArray Q S0 (f + t.length) L a w := by
 simp only [tailB, Bool.and_eq_true, decide_eq_true_eq] at ht
 obtain ⟨⟨⟨h0, hs⟩, hc⟩, hq⟩ := ht
 have hn : h.length < (h ++ t).toArray.size := by simp; omega
 intro f
 have done : ∀ (f : Nat) (L L' : Array Bool) (a : Act) (w : World), Both h t L L' → HeadInv md (h ++ t).toArray h.length L → Region.ready md h.toArray L' = [] →
   wpAnyH P md (h ++ t).toArray Q S0 t.length (List.replicate h.length true ++ List.replicate t.length false).toArray a w → wpAnyH P md (h ++ t).toArray Q S0 (f + t.length) L a w := fun f L L' a w b inv he hw => by
  have up := all_up hg b he
  have hL : L = (List.replicate h.length true ++ List.replicate t.length false).toArray := by
   exact mbdd91
  rw [← hL] at hw
  exact wpAnyH_fuels _ _ hw
 induction f with
 | zero =>
  intro L L' a w b inv _ H
  exact done 0 L L' a w b inv H.1 H.2
 | succ f ih =>
  intro L L' a w b inv hi0 H
  by_cases he : Region.ready md h.toArray L' = []
  ·exact done (f + 1) L L' a w b inv he (H.1 he)
  ·obtain ⟨i, hi⟩ := List.exists_mem_of_ne_nil _ he
   have hil := b.lt hi
   have hir := (b.ready inv hil).2 hi
   rw [show f + 1 + t.length = (f + t.length) + 1 by omega]
   refine ⟨fun h1 => (by rw [h1] at hir; cases hir), fun j hj => ?_⟩
   have hjl : j < h.length := by
    exact mcb3e5
   refine hth_op hg hjl (wpOp_mono (fun a' w' h' => ⟨hSS _ h'.1, ih _ _ a' w' (b.set inv hjl) (inv.set hj hjl) (getD_set_up hi0) h'.2⟩) (H.2 j ((b.ready inv hjl).1 hj)))
theorem both_start {l : List Oper} (hn : n < l.length) : Both (l.take n) (l.drop n) (Array.replicate l.length false) (Array.replicate n false) := by
 have hl : (l.take n).length = n := by simp; omega
 exact ⟨by simp [hl], fun j hj => by
   rw [hl] at hj
   simp only [Array.getD_eq_getD_getElem?]
   rw [Array.getElem?_eq_getElem (by simp; omega), Array.getElem?_eq_getElem (by simp; omega)]; simp, fun j _ => getD_replicate_false _ _⟩
theorem inv_start {l : List Oper} (hn : n < l.length) : HeadInv .any (l.take n ++ l.drop n).toArray (l.take n).length (Array.replicate l.length false) := by
 rw [List.take_append_drop]
 exact m04ab9
theorem wp_region_cutH {a : Act} {l : List Oper} (n i0 : Nat) (S0 S : World → Prop) {o : Oper} (hm : P.follows .mixedOrders = true) (hn : i0 < n ∧ n < l.length) (hSS : ∀ w, S w → S0 w)
  (hg : headB .any (l.take n) (l.drop n) = true) (ht : tailB .any i0 (l.take n) (l.drop n) = true)
  (ho : l.toArray[i0]? = some o) (hs : Region.noSelect l.toArray = true) (hf : Region.free .any l.toArray (Array.replicate l.length false) i0 = true)
  (hr : (Region.ready .any l.toArray (Array.replicate l.length false)).contains i0 = true)
  (hQ : ∀ c a w, Q (.panic c) (a.put o.dst v) w → Q (.panic c) a w) (hy : YieldsIf P l.toArray S0 o v a) (hS : S w.drew)
  (H : S w.drew → wpAnyH P .any (l.take n).toArray (HTH P .any l.toArray (l.drop n).length (List.replicate (l.take n).length true ++ List.replicate (l.drop n).length false).toArray S0 Q) S (n - 1) ((Array.replicate n false).setIfInBounds i0 true) (a.put o.dst v) w.drew) : (Code.region id l.toArray true).wp P Q a w := by
 refine wp_region_held (S := S0) hm ?_
 have hl : (l.take n).length = n := by simp; omega
 have e1 : l.take n ++ l.drop n = l := List.take_append_drop n l
 have hr' : i0 ∈ Region.ready .any l.toArray (Array.replicate l.length false) := by simpa using hr
 have inv0 := inv_start hn.2
 have h1 := head_anyH (Q := Q) hSS hg ht (n - 1) _ _ (a.put o.dst v) w.drew ((both_start hn.2).set inv0 (by rw [hl]; exact hn.1)) (inv0.set (by rw [e1]; exact hr') (by rw [hl]; exact hn.1))
  (by rw [Array.getD_eq_getD_getElem?, Array.getElem?_setIfInBounds_self_of_lt (by simp; omega)]; rfl)
  (by rw [e1]; exact H hS)
 rw [e1] at h1
 have h2 := wpAnyH_take ho hs hf hr hQ hy (hSS _ hS) h1
 have e2 : n - 1 + (l.drop n).length + 1 = l.toArray.size := by simp; omega
 rw [e2] at h2
 simpa using h2
theorem wp_region_cut0 {a : Act} {l : List Oper} (n : Nat) (S : World → Prop) (hm : P.follows .mixedOrders = true) (hn : n < l.length)
  (hg : headB .any (l.take n) (l.drop n) = true) (ht : tailB .any l.length (l.take n) (l.drop n) = true) (hS : S w.drew)
  (H : S w.drew → wpAnyH P .any (l.take n).toArray (HT P l.toArray (l.drop n) Q) S n (Array.replicate n false) a w.drew) : (Code.region id l.toArray true).wp P Q a w := by
 refine wp_region_any hm ?_
 have e1 : l.take n ++ l.drop n = l := List.take_append_drop n l
 have h1 := head_any (Q := Q) hg ht n _ _ a w.drew (both_start hn) (inv_start hn)
  (by rw [Array.getD_eq_getD_getElem?, Array.getElem?_eq_none (by simp)]; rfl)
  (by rw [e1]; exact wpAny_of_held _ _ _ _ (H hS))
 rw [e1] at h1
 have e2 : n + (l.drop n).length = l.toArray.size := by simp; omega
 rw [e2] at h1
 simpa using h1
end
end Go.Proofs.YtgljdfblgpdaaaaGreatDoor
