import Derived.Deep.RegionHeldLaw
import Derived.Deep.AppendSrc
import Derived.Test.YtgljdfblgpdaaaaGreatDoorStRatLs
set_option linter.unusedSimpArgs false
set_option linter.unusedVariables false
set_option maxRecDepth 100000
set_option maxHeartbeats 4000000
namespace Go.Proofs.YtgljdfblgpdaaaaGreatDoor
open Go.RowKit
theorem RStays_any (na nb : Bool) (A B : Option Addr) (n c m d : Nat) (l k : List Nat) (w : World) (hn : l.length = n) (hm : k.length = m) (hn2 : n ≤ 4000000) (hm2 : m ≤ 4000000) (hl : WS w A l) (hk : WS w B k) :
  Calls Tryz.prog 125 #[.agg #[.bool na, .slice A n c], .agg #[.bool nb, .slice B m d]] w fun e w' => e = .returned (.bool (na == nb && decide (l = k))) ∧ Below w.heap.size w w' := by
 subst hn hm
 by_cases h1 : na = nb
 ·subst h1
  by_cases h2 : l.length = k.length
  ·have e1 : ((l.length : Int) != (k.length : Int)) = false := by simp; omega
   have H2 := Hi h2
   clear h2
   go_enter Tryz.func125, Tryz.ntmps125
   go_wp2_with fail
   obtain ⟨W1, hW1⟩ : ∃ W, W = (w.alloc (.cells #[.bool na, .slice A l.length c] 24)).alloc (.cells #[.bool na, .slice B k.length d] 24) := ⟨_, rfl⟩
   have x0 : Box2 W1 w.heap.size (.bool na) (.slice A l.length c) := by rw [hW1]; exact (Box2.new w _ _).alloc _
   have x1 : Box2 W1 (w.heap.size + 1) (.bool na) (.slice B k.length d) := by
    rw [hW1]
    have h := Box2.new (w.alloc (.cells #[.bool na, .slice A l.length c] 24)) (.bool na) (.slice B k.length d)
    rwa [World.size_alloc] at h
   have hw1 : Below w.heap.size w W1 := by rw [hW1]; exact ba (ba (b0 _) _) _
   rw [← hW1]
   have hl1 := hl.below hw1
   have hk1 := hk.below hw1
   have HB := Hi hw1
   clear hW1 hl hk hw1
   go_loopw [5] (fun iv wr => ∃ i : Nat, iv = .int .i64 (i : Int) ∧ i ≤ l.length ∧ (∀ j, j < i → gd l j = gd k j) ∧ Below W1.heap.size W1 wr) (fun iv _ => l.length - (intOf iv).toNat)
   case atStart => exact ⟨0, rfl, Nat.zero_le _, fun j hj => absurd hj (by omega), b0 _⟩
   case round =>
    obtain ⟨i, rfl, hi, hpre, hwr⟩ := hrel
    have HPR := Hi hpre
    clear hpre
    have c0 := (x0.below hwr).cell1
    have c1 := (x1.below hwr).cell1
    rcases Nat.lt_or_ge i l.length with hlt | hge
    ·have hlti : (i : Int) < (l.length : Int) := by omega
     obtain ⟨b, off, rfl, hb1, hc1⟩ := (hl1.below hwr).at_ (by omega)
     obtain ⟨b', off', rfl, hb2, hc2⟩ := (hk1.below hwr).at_ (by have := H2.out; omega)
     have d1 := hc1 i hlt
     have d2 := hc2 i (by have := H2.out; omega)
     have hltk : (i : Int) < (k.length : Int) := by have := H2.out; omega
     have hx := hl1.lt i
     have hy := hk1.lt i
     clear hc1 hc2
     by_cases hg : gd l i = gd k i
     ·have HG := Hi hg
      have hne : (((gd l i : Nat) : Int) != ((gd k i : Nat) : Int)) = false := by rw [hg]; simp
      clear hg
      go_wp2_with fail
      go_quiet (fail)
      go_wp2_with fail
      go_roundw
      case rel =>
       refine ⟨i + 1, by go_num, by omega, fun j hj => ?_, bd hwr _⟩
       rcases Nat.lt_or_ge j i with h | h
       ·exact HPR.out j h
       ·rw [show j = i from by omega]; exact HG.out
      case measure => simp [intOf]; omega
     ·have HG := Hi hg
      have hne : (((gd l i : Nat) : Int) != ((gd k i : Nat) : Int)) = true := by simp; omega
      clear hg
      go_wp2_with fail
      go_quiet (fail)
      go_wp2_with fail
      go_ret
      exact ⟨ret_bool (by have : l ≠ k := fun h => HG.out (by rw [h]); simp [this]), bd (bt HB.out hwr) _⟩
    ·have hnlt : ¬ (i : Int) < (l.length : Int) := by omega
     go_wp2_with fail
     go_ret
     exact ⟨ret_bool (by have : l = k := list_eq_gd H2.out (fun j hj => HPR.out j (by omega)); simp [this]), bt HB.out hwr⟩
  ·have e1 : ((l.length : Int) != (k.length : Int)) = true := by simp; omega
   have hne : l ≠ k := fun h => h2 (by rw [h])
   have HN := Hi hne
   clear hne
   go_enter Tryz.func125, Tryz.ntmps125
   go_wp2_with fail
   go_ret
   exact ⟨ret_bool (by have := HN.out; simp [this]), ba (ba (b0 _) _) _⟩
 ·have e1 : (na != nb) = true := by simpa using h1
  have H1 := Hi h1
  clear h1
  go_enter Tryz.func125, Tryz.ntmps125
  go_wp2_with fail
  go_ret
  exact ⟨ret_bool (by have := H1.out; simp [this]), ba (ba (b0 _) _) _⟩
open Go.RowKit
theorem step_append_none {P : Program} {ops : Array Oper} {o : Oper} {a : Act} {w : World} {K : Act → World → Prop} {Q : Exit → Act → World → Prop} {E : Prop}
  (hg : o.guard = none) (s x : Operand) (t : TypeId) (hop : o.op = Op.call { callee := Callee.builtin Builtin.append, args := #[s, x], argTypes := #[t, t] })
  (e : TypeId) (i : TypeInfo) (h1 : P.underlying t = some (.slice e)) (h2 : P.info? e = some i)
  (b off cap : Nat) (hs : a.eval s = .slice (some ⟨b, off, none⟩) 0 cap) (A : Option Addr) (c : Nat) (hx : a.eval x = .slice A 0 c)
  (hK : K (a.put o.dst (.slice (some ⟨b, off, none⟩) 0 cap)) w) :
  if Region.wanted o (yielded ops a.tmps) = true then Oper.wp P o a w K Q else E := by
 have hw : Region.wanted o (yielded ops a.tmps) = true := by simp [Region.wanted, hg]
 rw [if_pos hw]
 have hsrc : Src P i.size t (.slice A 0 c) 0 [] w := by
  cases A with
  | none => exact Src.ofNil w h1 c
  | some q => exact Src.ofSlice w h1 q 0 c [] (by simp) (by simp) (by simp)
 have hrun := run_append_room_src (P := P) w t t o.type e i h1 h2 b off 0 cap (.slice A 0 c) 0 [] hsrc (by omega) (by simp) (by simp)
 unfold Oper.wp
 simp [execOp, hop, resolve, invoke, builtin, hs, hx, hrun, Result.andThen, World.setCells]
 exact hK
def CloneP (w : World) (neg : Bool) (l : List Nat) (e : Ending) (w' : World) : Prop :=
 ∃ B d, e = .returned (.agg #[.bool neg, .slice B l.length d]) ∧ WS w' B l ∧ (∀ p, p < w.heap.size → Off B l p) ∧ (∀ p, w'.heap.size ≤ p → Off B l p) ∧ Below w.heap.size w w'
theorem own_empty1 (w : World) : (w.alloc (.cells #[] 83)).ownsRow w.heap.size 83 1 (.slice (some ⟨w.heap.size, 0, none⟩) 0 0) 0 [] :=
 ⟨rfl, .inr ⟨w.heap.size, 0, #[], rfl, Nat.le_refl _, heap_alloc_new w _, Nat.le_refl _, by simp [maxLen], rfl, rfl⟩⟩
theorem Clone_nil (w : World) (neg : Bool) (A : Option Addr) (c : Nat) :
  Calls Tryz.prog 124 #[.agg #[.bool neg, .slice A 0 c]] w (CloneP w neg []) := by
 obtain ⟨i0, hi0, hz0, hz1, hz2⟩ := info_v
 go_enter Tryz.func124, Tryz.ntmps124
 go_wp2_with fail
 obtain ⟨W1, hW1⟩ : ∃ W, W = (w.alloc (.cells #[.bool neg, .slice A 0 c] 24)).alloc (.cells #[.bool false, .slice none 0 0] 24) := ⟨_, rfl⟩
 have x0 : Box2 W1 w.heap.size (.bool neg) (.slice A 0 c) := by rw [hW1]; exact (Box2.new w _ _).alloc _
 have x1 : Box2 W1 (w.heap.size + 1) (.bool false) (.slice none 0 0) := by
  rw [hW1]
  have h := Box2.new (w.alloc (.cells #[.bool neg, .slice A 0 c] 24)) (.bool false) (.slice none 0 0)
  rwa [World.size_alloc] at h
 have hw1 : Below w.heap.size w W1 := by rw [hW1]; exact ba (ba (b0 _) _) _
 rw [← hW1]
 clear hW1
 obtain ⟨c0, c1⟩ := x0.cs
 obtain ⟨d0, d1⟩ := x1.cs
 have f0 := x1.free 0
 have f1 := x1.free 1
 have l1 := x1.lt
 have HS : Hid (∀ W, Below W1.heap.size W1 W → W.cell? ⟨w.heap.size, 0, none⟩ = some (.bool neg) ∧ W.cell? ⟨w.heap.size, 1, none⟩ = some (.slice A 0 c)) := fun W hb => ⟨(x0.below hb).cell0, (x0.below hb).cell1⟩
 go_region_held_law (fun W => W.cell? ⟨w.heap.size, 0, none⟩ = some (.bool neg) ∧ W.cell? ⟨w.heap.size, 1, none⟩ = some (.slice A 0 c))
  (first | exact HS.out _ (bw (b0 _)) | exact HS.out _ (ba (bw (b0 _)) _) | exact HS.out _ (ba (b0 _) _) | go_keep)
  (first
   | (refine step_append_none rfl _ _ _ rfl 83 i0 Tryz.underlying22 hi0 _ _ _ rfl _ _ rfl ?_))
 all_goals (go_wp2_with fail)
 all_goals
  have z := ((x1.set0 (.bool neg)).set1 (.slice (some ⟨W1.heap.size, 0, none⟩) 0 0)).alloc (.cells #[] 83)
  obtain ⟨k0, k1⟩ := z.cs
  refine bodyPost_ret (v := .agg #[.bool neg, .slice (some ⟨W1.heap.size, 0, none⟩) 0 0]) (by simp [results, Tryz.results124, go_sem, k0, k1]) rfl ?_
  exact ⟨some ⟨W1.heap.size, 0, none⟩, 0, rfl, WS.nil_ _ _, fun _ _ h => absurd rfl h, fun _ _ h => absurd rfl h, bw (ba (b2 hw1 (by omega) _ _) _)⟩
theorem Clone_some (w : World) (neg : Bool) (A : Option Addr) (c : Nat) (l : List Nat) (h0 : 0 < l.length) (hm : l.length ≤ 4000000) (hl : WS w A l) :
  Calls Tryz.prog 124 #[.agg #[.bool neg, .slice A l.length c]] w (CloneP w neg l) := by
 obtain ⟨i0, hi0, hz0, hz1, hz2⟩ := info_v
 obtain ⟨b, off, rfl, hlt, -⟩ := hl.at_ h0
 go_enter Tryz.func124, Tryz.ntmps124
 go_wp2_with fail
 obtain ⟨W1, hW1⟩ : ∃ W, W = (w.alloc (.cells #[.bool neg, .slice (some ⟨b, off, none⟩) l.length c] 24)).alloc (.cells #[.bool false, .slice none 0 0] 24) := ⟨_, rfl⟩
 have x0 : Box2 W1 w.heap.size (.bool neg) (.slice (some ⟨b, off, none⟩) l.length c) := by rw [hW1]; exact (Box2.new w _ _).alloc _
 have x1 : Box2 W1 (w.heap.size + 1) (.bool false) (.slice none 0 0) := by
  rw [hW1]
  have h := Box2.new (w.alloc (.cells #[.bool neg, .slice (some ⟨b, off, none⟩) l.length c] 24)) (.bool false) (.slice none 0 0)
  rwa [World.size_alloc] at h
 have hw1 : Below w.heap.size w W1 := by rw [hW1]; exact ba (ba (b0 _) _) _
 rw [← hW1]
 clear hW1
 have hl1 := hl.below hw1
 have HN : Hid (∀ W, Below W1.heap.size W1 W → ∀ j u, (l.map fun (x : Nat) => Value.int .u32 (x : Int))[j]? = some u → W.cell? ((⟨b, off, none⟩ : Addr).add j) = some u) := fun W hb => by
  have h := news_ws (Nat.le_refl l.length) (hl1.below hb)
  rwa [List.take_length] at h
 obtain ⟨c0, c1⟩ := x0.cs
 have l1 := x1.lt
 have HS : Hid (∀ W, Below W1.heap.size W1 W → W.cell? ⟨w.heap.size, 0, none⟩ = some (.bool neg) ∧ W.cell? ⟨w.heap.size, 1, none⟩ = some (.slice (some ⟨b, off, none⟩) l.length c)) := fun W hb => ⟨(x0.below hb).cell0, (x0.below hb).cell1⟩
 go_region_held_law (fun W => W.cell? ⟨w.heap.size, 0, none⟩ = some (.bool neg) ∧ W.cell? ⟨w.heap.size, 1, none⟩ = some (.slice (some ⟨b, off, none⟩) l.length c))
  (first | exact ⟨y0, y1⟩ | exact ⟨(box2_far hx3 (by omega) _ _).cell0, (box2_far hx3 (by omega) _ _).cell1⟩ | exact HS.out _ (bw (b0 _)) | exact HS.out _ (ba (bw (b0 _)) _) | exact HS.out _ (ba (b0 _) _) | go_keep)
  (first
   | (refine step_append_lies _ rfl _ _ _ rfl W1.heap.size 83 i0 _ 1 4 Tryz.underlying22 hi0 hz0 hz1 hz2 rfl (by omega) (.slice (some ⟨W1.heap.size, 0, none⟩) 0 0) 0 [] rfl (own_empty1 _) ⟨b, off, none⟩ l.length c (l.map fun (x : Nat) => Value.int .u32 (x : Int)) rfl (by simp) (HN.out _ (by first | exact ba (bw (b0 _)) _ | exact bw (ba (b0 _) _))) one_words h0 (by simp only [maxLen]; omega) (by omega) (by simp) _ rfl ?_; intro g cap w3 hown hgrow hat hlt3; have hO : Only W1.heap.size (W1.alloc (.cells #[] 83)) w3 := ⟨hgrow.os, hgrow.tape, hgrow.output, hgrow.size, hgrow.block⟩; have hx3 := box2_only (x0.alloc (.cells #[] 83)) hO (by omega); have hz3 := box2_only (x1.alloc (.cells #[] 83)) hO (by omega); have y0 := hx3.cell0; have y1 := hx3.cell1; have q0 := hz3.cell0; have q1 := hz3.cell1; have f0 := hz3.free 0; have f1 := hz3.free 1))
 all_goals (go_wp2_with fail)
 all_goals
  rw [Nat.zero_add, List.nil_append] at hown
  obtain ⟨hcap, hws⟩ := ws_of_row hl.1 rfl hown h0 hlt3
  have z := ((hz3.set0 (.bool neg)).set1 (.slice (some ⟨g, 0, none⟩) l.length cap))
  obtain ⟨k0, k1⟩ := z.cs
  have hgne : g ≠ w.heap.size + 1 := by
   rcases hat with h | h
   ·simp [Value.ownBlock] at h; omega
   ·simp at h; omega
  have hgge : w.heap.size ≤ g := by
   rcases hat with h | h
   ·simp [Value.ownBlock] at h; omega
   ·simp at h; omega
  refine bodyPost_ret (v := .agg #[.bool neg, .slice (some ⟨g, 0, none⟩) l.length cap]) (by simp [results, Tryz.results124, go_sem, k0, k1]) rfl ?_
  refine ⟨some ⟨g, 0, none⟩, cap, rfl, hws.two (fun _ b' o' e => by injection e with e; injection e with e1; omega) _ _, fun p hp _ b' o' e => (by injection e with e; injection e with e1; omega), fun p hp _ b' o' e => (by
   injection e with e; injection e with e1
   have : w3.heap.size ≤ p := by simpa [World.setCell] using hp
   omega), b2 (bo (ba hw1 _) hO (by omega)) (by omega) _ _⟩
theorem Clone_any (w : World) (neg : Bool) (A : Option Addr) (n c : Nat) (l : List Nat) (hn : l.length = n) (hm : n ≤ 4000000) (hl : WS w A l) :
  Calls Tryz.prog 124 #[.agg #[.bool neg, .slice A n c]] w (CloneP w neg l) := by
 subst hn
 rcases Nat.eq_zero_or_pos l.length with h | h
 ·obtain rfl := List.eq_nil_of_length_eq_zero h
  exact Clone_nil w neg A c
 ·exact Clone_some w neg A c l h hm hl
open Go.RowKit Go.Shelf
variable {A : Option Addr} {base c : Nat} {v : Value} {w : World}
theorem info_Q : (Tryz.prog.info? 35).map (fun i => (i.zero, i.size, i.bytes)) = some (some (.agg #[.bool false, .slice none 0 0, .bool false, .slice none 0 0]), 4, 64) := by kernel_rfl
theorem WS.grown {W W' : World} {o : Option Nat} {l : List Nat} (h : WS W A l) (hg : W.grownBy W' o) (ho : ∀ p, o = some p → Off A l p) : WS W' A l :=
 ⟨h.1, fun hl => by
  obtain ⟨b, off, e, hlt, hc⟩ := h.2 hl
  have hne : some b ≠ o := fun h' => ho b h'.symm hl b off e rfl
  refine ⟨b, off, e, Nat.lt_of_lt_of_le hlt hg.size, fun j hj => ?_⟩
  rw [← hc j hj]
  exact hg.cell_far ⟨b, off + j, none⟩ hlt hne⟩
def qcells (a : QW) : List Value := [.bool a.n, .slice a.A a.l.length a.c, .bool a.m, .slice a.B a.k.length a.d]
structure Cp (W : World) (o : Option Nat) (a b : QW) : Prop where
 n : b.n = a.n
 l : b.l = a.l
 m : b.m = a.m
 k : b.k = a.k
 w1 : WS W b.A b.l
 w2 : WS W b.B b.k
 off : ∀ p, o = some p → Off b.A b.l p ∧ Off b.B b.k p
section
variable {W W' : World} {o : Option Nat} {a b : QW} {g : Nat}
theorem Cp.below (h : Cp W o a b) (hb : Below W.heap.size W W') : Cp W' o a b := ⟨h.n, h.l, h.m, h.k, h.w1.below hb, h.w2.below hb, h.off⟩
theorem Cp.grown (h : Cp W o a b) (hg : W.grownBy W' o) (ha : o = some g ∨ g = W.heap.size) : Cp W' (some g) a b :=
 ⟨h.n, h.l, h.m, h.k, h.w1.grown hg fun p hp => (h.off p hp).1, h.w2.grown hg fun p hp => (h.off p hp).2, fun p hp => by
  injection hp with hp
  subst hp
  rcases ha with ha | ha
  ·exact h.off _ ha
  ·exact ⟨h.w1.off (by omega), h.w2.off (by omega)⟩⟩
end
def RCl (w : World) (a : QW) (e : Ending) (w' : World) : Prop :=
 ∃ b : QW, e = .returned (.agg #[.bool b.n, .slice b.A b.l.length b.c, .bool b.m, .slice b.B b.k.length b.d]) ∧ (∀ o : Option Nat, (∀ p, o = some p → p < w.heap.size) → Cp w' o a b) ∧ Below w.heap.size w w'
theorem RCloneQ {a : QW} (h1 : WS w a.A a.l) (h2 : WS w a.B a.k) (hn : a.l.length ≤ 4000000) (hm : a.k.length ≤ 4000000) :
  Calls Tryz.prog 68 #[.agg #[.bool a.n, .slice a.A a.l.length a.c, .bool a.m, .slice a.B a.k.length a.d]] w (RCl w a) := by
 have H1 := Hi h1
 have H2 := Hi h2
 have HN := Hi hn
 have HM := Hi hm
 clear h1 h2 hn hm
 obtain ⟨W1, hW1, hw1, x0, x1⟩ := hdQq w a.n a.A a.c a.l a.m a.B a.d a.k
 go_enter Tryz.func68, Tryz.ntmps68
 go_wp2_with fail
 rw [← hW1]
 clear hW1
 have HC := x0.hc
 have HW := Hi hw1
 have X1 := Hi x1
 have hsz : w.heap.size + 1 < W1.heap.size := x1.lt
 have HSZ := Hi hsz
 clear x0 x1 hw1 hsz
 refine rg0 7 HC fun hHeld => ?_
 obtain ⟨wd, hwd⟩ : ∃ W, W = W1.drew := ⟨_, rfl⟩
 have HBd : Hid (Below W1.heap.size W1 wd) := Hi (by rw [hwd]; exact bw (b0 _))
 rw [← hwd] at hHeld ⊢
 clear hwd
 refine tk 0 ?_
 refine tk 1 ?_
 refine tk 3 ?_
 refine tk 4 ?_
 refine cl 2 fun K hK => ?_
 go_simp
 go_at_call 124
 refine (Clone_any _ a.n a.A a.l.length a.c a.l rfl HN.out (H1.out.below (bt HW.out HBd.out))).mono ?_
 rintro e u1 ⟨B1, d1, rfl, s1, o1, p1, hb⟩
 have HBu1 := Hi (bt HBd.out hb)
 have O1 : Hid (∀ p, p < W1.heap.size → Off B1 a.l p) := Hi (fun p hp => o1 p (Nat.lt_of_lt_of_le hp (HBd.out).size))
 have S1 := Hi s1
 clear s1 o1 p1 hb hHeld
 refine rk hK (HC.out _ HBu1.out) fun hHeld => ?_
 clear hK K
 refine cl 5 fun K hK => ?_
 go_simp
 go_at_call 124
 refine (Clone_any _ a.m a.B a.k.length a.d a.k rfl HM.out (H2.out.below (bt HW.out HBu1.out))).mono ?_
 rintro e u2 ⟨B2, d2, rfl, s2, o2, p2, hb⟩
 have HBu2 := Hi (bt HBu1.out hb)
 have O2 : Hid (∀ p, p < W1.heap.size → Off B2 a.k p) := Hi (fun p hp => o2 p (Nat.lt_of_lt_of_le hp (HBu1.out).size))
 have S1 := Hi (S1.out.below hb)
 have S2 := Hi s2
 clear s2 o2 p2 hb hHeld
 refine rk hK (HC.out _ HBu2.out) fun hHeld => ?_
 clear hK K
 refine tk 6 ?_
 refine wpAnyH_done (by kernel_rfl) ?_ _
 simp only [HT]
 clear hHeld HC
 have x1 := X1.out.below HBu2.out
 have hw2 := bt HW.out HBu2.out
 obtain ⟨f0, f1, f2, f3⟩ := x1.fr
 obtain ⟨r0, r1, r2, r3⟩ := x1.cs
 go_wp2_with fail
 have z := x1.stored (.bool a.n) (.slice B1 a.l.length d1) (.bool a.m) (.slice B2 a.k.length d2)
 obtain ⟨k0, k1, k2, k3⟩ := z.cs
 refine bodyPost_ret (v := .agg #[.bool a.n, .slice B1 a.l.length d1, .bool a.m, .slice B2 a.k.length d2]) (by simp [results, Tryz.results68, go_sem, k0, k1, k2, k3]) rfl ?_
 have t1 := O1.out _ HSZ.out
 have t2 := O2.out _ HSZ.out
 exact ⟨⟨a.n, B1, d1, a.l, a.m, B2, d2, a.k⟩, rfl, fun o ho => ⟨rfl, rfl, rfl, rfl, (S1.out.two t1 _ _).two23 t1 _ _, (S2.out.two t2 _ _).two23 t2 _ _, fun p hp => by
  have h1 := ho p hp
  have h2 := HSZ.out
  exact ⟨O1.out p (by omega), O2.out p (by omega)⟩⟩, b4 hw2 (Nat.le_succ _) _ _ _ _⟩
theorem RStaysQ {a b : QW} {o : Option Nat} (h1 : WS w a.A a.l) (h2 : WS w a.B a.k) (hn : a.l.length ≤ 4000000 ∧ a.k.length ≤ 4000000) (hc : Cp w o a b) :
  Calls Tryz.prog 70 #[.agg #[.bool a.n, .slice a.A a.l.length a.c, .bool a.m, .slice a.B a.k.length a.d], .agg #[.bool b.n, .slice b.A b.l.length b.c, .bool b.m, .slice b.B b.k.length b.d]] w fun e w' => e = .returned (.bool true) ∧ Below w.heap.size w w' := by
 have H1 := Hi h1
 have H2 := Hi h2
 have HN := Hi hn
 have HC := Hi hc
 clear h1 h2 hn hc
 obtain ⟨W1, hW1, hw1, x0, x1⟩ := hdQQ w a.n a.A a.c a.l a.m a.B a.d a.k b.n b.A b.c b.l b.m b.B b.d b.k
 go_enter Tryz.func70, Tryz.ntmps70
 go_wp2_with fail
 rw [← hW1]
 clear hW1
 obtain ⟨C00, C01, C02, C03⟩ := x0.cs
 obtain ⟨C10, C11, C12, C13⟩ := x1.cs
 have r := RStays_any a.n b.n a.A b.A a.l.length a.c b.l.length b.c a.l b.l W1 rfl rfl HN.out.1 (by rw [HC.out.l]; exact HN.out.1) (H1.out.below hw1) (HC.out.w1.below hw1)
 rw [HC.out.n, HC.out.l, decide_eq_true rfl, beq_self_eq_true] at r
 rw [HC.out.n, HC.out.l]
 refine (r).mono ?_
 rintro e u1 ⟨rfl, hb⟩
 clear C00 C01 C02 C03 C10 C11 C12 C13
 replace x0 := x0.below hb
 replace x1 := x1.below hb
 have hw1_ := bt hw1 hb
 clear hb hw1
 refine g01 ?_
 intros
 have r := RStays_any a.m b.m a.B b.B a.k.length a.d b.k.length b.d a.k b.k u1 rfl rfl HN.out.2 (by rw [HC.out.k]; exact HN.out.2) (H2.out.below hw1_) (HC.out.w2.below hw1_)
 rw [HC.out.m, HC.out.k, decide_eq_true rfl, beq_self_eq_true] at r
 rw [HC.out.m, HC.out.k]
 refine (r).mono ?_
 rintro e u2 ⟨rfl, hb⟩
 replace x0 := x0.below hb
 replace x1 := x1.below hb
 exact mafd61
def CRow (W : World) (base : Nat) (v : Value) (qs bs : List QW) : Prop :=
 W.ownsRow base 35 4 v bs.length (bs.flatMap qcells) ∧ ∀ i, i < bs.length → Cp W v.ownBlock (qs.getD i zq) (bs.getD i zq)
theorem CRow.own {W : World} {qs bs : List QW} (h : CRow W base v qs bs) {g : Nat} (hg : v.ownBlock = some g) : base ≤ g ∧ g < W.heap.size := h.1.lt g hg
theorem CRow.below {W W' : World} {qs bs : List QW} (h : CRow W base v qs bs) (hb : Below W.heap.size W W') : CRow W' base v qs bs := by
 refine ⟨⟨h.1.1, ?_⟩, fun i hi => (h.2 i hi).below hb⟩
 rcases h.1.2 with h0 | ⟨g, cap, cur, rfl, hbs, hg, hr⟩
 ·exact .inl h0
 ·exact .inr ⟨g, cap, cur, rfl, hbs, (hb.block g (h.1.lt g rfl).2).trans hg, hr⟩
theorem flat4 : ∀ (bs : List QW) (i t : Nat), i < bs.length → t < 4 → (bs.flatMap qcells)[i * 4 + t]? = (qcells (bs.getD i zq))[t]?
 | [], i, t, hi, _ => absurd hi (Nat.not_lt_zero _)
 | b :: bs, 0, t, _, ht => by
  rw [List.flatMap_cons, List.getElem?_append_left (by simpa [qcells] using ht)]; simp
 | b :: bs, i + 1, t, hi, ht => by
  rw [List.flatMap_cons, List.getElem?_append_right (by simp [qcells]; omega)]
  have e : (i + 1) * 4 + t - (qcells b).length = i * 4 + t := by simp [qcells]; omega
  rw [e, flat4 bs i t (by simpa using hi) ht]; simp
theorem m113cf {P : Prop} (h : P := by
 have ea : (⟨g, 0, none⟩ : Addr).add (i * 4 + t) = ⟨g, i * 4 + t, none⟩ := by unfold Addr.add; split <;> simp_all
 rwa [ea] at h2) : P := h
theorem CRow.el {W : World} {qs bs : List QW} {g n cap : Nat} (h : CRow W base (.slice (some ⟨g, 0, none⟩) n cap) qs bs) {i : Nat} (hi : i < bs.length) :
  El4 W g (i * 4) (.bool (bs.getD i zq).n) (.slice (bs.getD i zq).A (bs.getD i zq).l.length (bs.getD i zq).c) (.bool (bs.getD i zq).m) (.slice (bs.getD i zq).B (bs.getD i zq).k.length (bs.getD i zq).d) := by
 have hc := h.1.cells (g := g) rfl
 have hn : ∀ t u, t < 4 → (qcells (bs.getD i zq))[t]? = some u → W.cell? ⟨g, i * 4 + t, none⟩ = some u := fun t u ht hu => by
  have e := flat4 bs i t hi ht
  have h2 := hc (i * 4 + t) u (e.trans hu)
  exact m113cf
 exact ⟨(h.1.lt g rfl).2, hn 0 _ (by decide) rfl, hn 1 _ (by decide) rfl, hn 2 _ (by decide) rfl, hn 3 _ (by decide) rfl⟩
def RCA (w : World) (qs : List QW) (e : Ending) (w' : World) : Prop :=
 ∃ v bs, e = .returned v ∧ bs.length = qs.length ∧ CRow w' w.heap.size v qs bs ∧ Below w.heap.size w w'
theorem CloneAll_any (w : World) {qs : List QW} (h : RL w A qs) (hlen : qs.length ≤ 1000000) (hsm : ∀ i, i < qs.length → (qs.getD i zq).l.length ≤ 4000000 ∧ (qs.getD i zq).k.length ≤ 4000000) :
  Calls Tryz.prog 69 #[.slice A qs.length c] w (RCA w qs) := by
 obtain ⟨i0, hi0, hz0, hz1, hz2⟩ := info_parts info_Q
 have H := Hi h
 have HL := Hi hlen
 have HS := Hi hsm
 have hw0 := b0 w
 clear h hlen hsm
 go_enter Tryz.func69, Tryz.ntmps69
 go_wp2_with fail
 have HB0 := Hi hw0
 have HR0 : Hid (CRow w w.heap.size (.slice none 0 0) qs []) := Hi ⟨⟨rfl, .inl ⟨rfl, rfl⟩⟩, fun i hi => absurd hi (Nat.not_lt_zero _)⟩
 clear hw0
 go_loopw [3, 4] (fun sv iv wr => ∃ (v : Value) (j : Nat) (bs : List QW), sv = v ∧ iv = .int .i64 (j : Int) ∧ j ≤ qs.length ∧ bs.length = j ∧ Hid (CRow wr w.heap.size v qs bs) ∧ Hid (Below w.heap.size w wr)) (fun sv iv wr => qs.length - (intOf iv).toNat)
 case atStart => exact ⟨_, 0, [], rfl, rfl, Nat.zero_le _, rfl, HR0, HB0⟩
 case round =>
  obtain ⟨v, j, bs, hv, rfl, hjl, hbl0, HR, HBJ⟩ := hrel
  rw [hv]
  clear hv
  clear HR0 HB0
  obtain ⟨wo, hwo⟩ : ∃ wo, wo = wr := ⟨_, rfl⟩
  rw [← hwo] at HR HBJ ⊢
  clear hwo wr
  by_cases hjn : j < qs.length
  ·have hji : (j : Int) < (qs.length : Int) := by omega
   have hj0 : ¬ (j : Int) < 0 := by omega
   obtain ⟨b, off, rfl, hbl, hq⟩ := (H.out.below HBJ.out) (by rintro rfl; simp at hjn)
   obtain ⟨e0, e1, e2, e3, s1, s2, s3, s4⟩ := hq j hjn
   have hs := HS.out j hjn
   obtain ⟨a, ha⟩ : ∃ a, a = qs.getD j zq := ⟨_, rfl⟩
   rw [← ha] at e0 e1 e2 e3 s1 s2 hs
   have HA := Hi ha
   have S1 := Hi s1
   have S2 := Hi s2
   have S3 := Hi hs
   have HJ := Hi hbl0
   clear ha s1 s2 s3 s4 hq hs hbl0
   go_wp2_with fail
   refine (RCloneQ S1.out S2.out S3.out.1 S3.out.2).mono ?_
   rintro e w2 ⟨b2, rfl, hcp, hb⟩
   have CP := Hi (hcp v.ownBlock (fun p hp => (HR.out.own hp).2))
   have HR2 := Hi (HR.out.below hb)
   have HB2 := Hi (bt HBJ.out hb)
   clear hcp hb HR HBJ S1 S2 e0 e1 e2 e3 hbl
   obtain ⟨w3, hw⟩ : ∃ W, W = w2.alloc (.cells #[.bool b2.n, .slice b2.A b2.l.length b2.c, .bool b2.m, .slice b2.B b2.k.length b2.d] 35) := ⟨_, rfl⟩
   have hb : Below w2.heap.size w2 w3 := by rw [hw]; exact ba (b0 _) _
   have hnw : w3.heap[w2.heap.size]? = some (.cells #[.bool b2.n, .slice b2.A b2.l.length b2.c, .bool b2.m, .slice b2.B b2.k.length b2.d] 35 (0, 0)) := by rw [hw]; exact heap_alloc_new w2 _
   have HNW : Hid (∀ i u, (qcells b2)[i]? = some u → w3.cell? ((⟨w2.heap.size, 0, none⟩ : Addr).add i) = some u) := Hi (fun i u hu => World.news_of_block hnw i u hu)
   have hone : ∀ u ∈ qcells b2, u.oneCell' = true := fun u hu => by
    simp [qcells] at hu
    rcases hu with rfl | rfl | rfl | rfl <;> rfl
   have HON := Hi hone
   have HW3 := Hi hw
   clear hw hnw hone
   have HR3 := Hi (HR2.out.below hb)
   have CP3 := Hi (CP.out.below hb)
   have HB3 := Hi (bt HB2.out hb)
   have HSZ := HB3.out.size
   have HOWN : Hid (w3.ownsRow w.heap.size 35 4 v j (bs.flatMap qcells)) := Hi (by have := HR3.out.1; rwa [HJ.out] at this)
   have hj6 : j ≤ 1000000 := by have := HL.out; omega
   have HOWN4 : Hid ((w2.alloc (.cells #[.bool b2.n, .slice b2.A b2.l.length b2.c, .bool b2.m, .slice b2.B b2.k.length b2.d] 35)).ownsRow w.heap.size 35 4 v j (bs.flatMap qcells)) := Hi (by rw [← HW3.out]; exact HOWN.out)
   have HNW4 : Hid (∀ i u, (qcells b2)[i]? = some u → (w2.alloc (.cells #[.bool b2.n, .slice b2.A b2.l.length b2.c, .bool b2.m, .slice b2.B b2.k.length b2.d] 35)).cell? ((⟨w2.heap.size, 0, none⟩ : Addr).add i) = some u) := Hi (by rw [← HW3.out]; exact HNW.out)
   have HSZ4 : Hid (w.heap.size ≤ (w2.alloc (.cells #[.bool b2.n, .slice b2.A b2.l.length b2.c, .bool b2.m, .slice b2.B b2.k.length b2.d] 35)).heap.size) := Hi (by rw [← HW3.out]; exact HSZ)
   clear HR2 CP HB2 hb
   go_wp2_with (at_builtin; refine wpList_append_lies _ rfl (.tmp 11) (.tmp 17) _ rfl w.heap.size 35 i0 _ 4 64 Tryz.underlying53 hi0 hz0 hz1 hz2 rfl (by omega) v j (bs.flatMap qcells) rfl HOWN4.out ⟨w2.heap.size, 0, none⟩ 1 1 (qcells b2) rfl (by simp [qcells]) HNW4.out HON.out (by omega) (by simp only [maxLen]; omega) (by omega) HSZ4.out _ rfl ?_; intro g cap w4 hown hgrow hat hlt; rw [← HW3.out] at hgrow hat; have HX0 := Hi hown; have HX1 := Hi hgrow; have HX2 := Hi hat; clear hown hgrow hat)
   have hown := HX0.out
   have hgrow := HX1.out
   have hat := HX2.out
   clear HX0 HX1 HX2
   have HX : Hid (CRow w4 w.heap.size (.slice (some ⟨g, 0, none⟩) (j + 1) cap) qs (bs ++ [b2])) := Hi (by
    have hl : (bs ++ [b2]).length = j + 1 := by rw [List.length_append, HJ.out]; rfl
    refine ⟨by rw [hl, List.flatMap_append, List.flatMap_cons, List.flatMap_nil, List.append_nil]; exact hown, fun i hi => ?_⟩
    rcases Nat.lt_or_ge i j with h1 | h1
    ·have e : (bs ++ [b2]).getD i zq = bs.getD i zq := by rw [List.getD_eq_getElem?_getD, List.getElem?_append_left (by have := HJ.out; omega), ← List.getD_eq_getElem?_getD]
     rw [e]
     exact (HR3.out.2 i (by have := HJ.out; omega)).grown hgrow hat
    ·obtain rfl : i = j := by omega
     have e : (bs ++ [b2]).getD i zq = b2 := by rw [List.getD_eq_getElem?_getD, List.getElem?_append_right (by have := HJ.out; omega), HJ.out, Nat.sub_self]; rfl
     rw [e, ← HA.out]
     exact CP3.out.grown hgrow hat)
   have HY := Hi (HB3.out.grown hgrow HSZ (fun k hk => (HR3.out.own hk).1))
   have hlb : (bs ++ [b2]).length = j + 1 := by rw [List.length_append, HJ.out]; rfl
   clear hown hgrow hat
   go_wp2_with fail
   go_roundw
   case rel =>
    have hwj : wrap64 ((j : Int) + 1) = ((j + 1 : Nat) : Int) := by unfold wrap64; omega
    exact ⟨_, j + 1, bs ++ [b2], rfl, by first | rfl | rw [hwj] | simp, by omega, hlb, HX, HY⟩
   case measure =>
    have hwj : wrap64 ((j : Int) + 1) = ((j + 1 : Nat) : Int) := by unfold wrap64; omega
    try rw [hwj]
    simp [intOf]
    omega
  ·have hji : ¬ (j : Int) < (qs.length : Int) := by omega
   obtain rfl : j = qs.length := by omega
   go_wp2_with fail
   go_ret
   exact ⟨v, bs, rfl, hbl0, HR.out, HBJ.out⟩
theorem CRow.form {W : World} {qs bs : List QW} (h : CRow W base v qs bs) : ∃ B c2, v = .slice B bs.length c2 ∧ ∀ i, i < bs.length → ∃ g, B = some ⟨g, 0, none⟩ ∧
  El4 W g (i * 4) (.bool (bs.getD i zq).n) (.slice (bs.getD i zq).A (bs.getD i zq).l.length (bs.getD i zq).c) (.bool (bs.getD i zq).m) (.slice (bs.getD i zq).B (bs.getD i zq).k.length (bs.getD i zq).d) := by
 rcases h.1.2 with ⟨rfl, h0⟩ | ⟨g, cap, cur, rfl, hb, hg, _⟩
 ·exact ⟨none, 0, by rw [h0], fun i hi => by omega⟩
 ·exact ⟨_, cap, rfl, fun i hi => ⟨g, rfl, h.el hi⟩⟩
theorem StayAll_any (w : World) {qs bs : List QW} (h : RL w A qs) (h2 : CRow w base v qs bs) (hl : bs.length = qs.length) (hlen : qs.length ≤ 1000000) (hsm : ∀ i, i < qs.length → (qs.getD i zq).l.length ≤ 4000000 ∧ (qs.getD i zq).k.length ≤ 4000000) :
  Calls Tryz.prog 71 #[.slice A qs.length c, v] w fun e w' => e = .returned (.bool true) ∧ Below w.heap.size w w' := by
 obtain ⟨B, c2, rfl, hel⟩ := h2.form
 have hcp := h2.2
 rw [hl] at hel hcp ⊢
 have H := Hi h
 have HE := Hi hel
 have HCP := Hi hcp
 have HL := Hi hlen
 have HS := Hi hsm
 have hw0 := b0 w
 clear h h2 hlen hsm hel hcp hl
 go_enter Tryz.func71, Tryz.ntmps71
 go_wp2_with fail
 have HB0 := Hi hw0
 clear hw0
 go_loopw [5] (fun iv wr => ∃ j : Nat, iv = .int .i64 (j : Int) ∧ j ≤ qs.length ∧ Hid (Below w.heap.size w wr)) (fun iv wr => qs.length - (intOf iv).toNat)
 case atStart => exact ⟨0, rfl, Nat.zero_le _, HB0⟩
 case round =>
  obtain ⟨j, rfl, hjl, HBJ⟩ := hrel
  clear HB0
  obtain ⟨wo, hwo⟩ : ∃ wo, wo = wr := ⟨_, rfl⟩
  rw [← hwo] at HBJ ⊢
  clear hwo wr
  by_cases hjn : j < qs.length
  ·have hji : (j : Int) < (qs.length : Int) := by omega
   have hj0 : ¬ (j : Int) < 0 := by omega
   obtain ⟨b, off, rfl, hbl, hq⟩ := H.out (by rintro rfl; simp at hjn)
   have hqj := (hq j hjn).below HBJ.out hbl
   obtain ⟨g, rfl, hx⟩ := HE.out j hjn
   have hcj := (HCP.out j hjn).below HBJ.out
   have hs := HS.out j hjn
   have hxj := hx.below HBJ.out
   obtain ⟨a, ha⟩ : ∃ a, a = qs.getD j zq := ⟨_, rfl⟩
   obtain ⟨b2, hb2⟩ : ∃ a, a = bs.getD j zq := ⟨_, rfl⟩
   rw [← ha] at hqj hcj hs
   rw [← hb2] at hcj hxj
   have XQ : Hid (El4 wo b (off + j * 4) (.bool a.n) (.slice a.A a.l.length a.c) (.bool a.m) (.slice a.B a.k.length a.d)) := Hi ⟨Nat.lt_of_lt_of_le hbl HBJ.out.size, hqj.1, hqj.2.1, hqj.2.2.1, hqj.2.2.2.1⟩
   have S1 := Hi hqj.2.2.2.2.1
   have S2 := Hi hqj.2.2.2.2.2.1
   have S3 := Hi hs
   have CP := Hi hcj
   have XE := Hi hxj
   clear ha hb2 hqj hcj hs hx hxj hq hbl
   go_wp2_with fail
   go_cut [27] (fun v wx => v = .bool false ∧ Below wo.heap.size wo wx)
   case first =>
    as_aux_lemma =>
    have HC := Go.Proofs.YtgljdfblgpdaaaaGreatDoor.hj XQ.out.hc XE.out.hc
    refine rgh HC fun hHeld => ?_
    obtain ⟨wd, hwd⟩ : ∃ W, W = wo.drew := ⟨_, rfl⟩
    have HBd : Hid (Below wo.heap.size wo wd) := Hi (by rw [hwd]; exact bw (b0 _))
    rw [← hwd] at hHeld ⊢
    clear hwd
    refine tk 0 ?_
    refine tk 1 ?_
    refine tk 2 ?_
    refine tk 3 ?_
    refine tk 4 ?_
    refine tk 5 ?_
    refine tk 6 ?_
    refine tk 7 ?_
    refine cl 8 fun K hK => ?_
    go_simp
    go_at_call 70
    refine (RStaysQ (S1.out.below HBd.out) (S2.out.below HBd.out) S3.out (CP.out.below HBd.out)).mono ?_
    rintro e u1 ⟨rfl, hb⟩
    have HBu := Hi (bt HBd.out hb)
    clear hb hHeld
    refine rk hK (HC.out _ HBu.out) fun hHeld => ?_
    clear hK K
    refine tk 9 ?_
    refine wpAnyH_done (by kernel_rfl) ?_ _
    clear hHeld
    go_wp2_with fail
    go_meet
    exact ⟨rfl, HBu.out⟩
   case rest =>
   obtain ⟨rfl, hb⟩ := hcut
   obtain ⟨w9, hwn⟩ : ∃ v, v = wc := ⟨_, rfl⟩
   rw [← hwn] at hb ⊢
   clear hwn wc
   have HB9 := Hi (bt HBJ.out hb)
   clear hb XQ XE S1 S2 S3 CP
   go_wp2_with fail
   go_roundw
   case rel =>
    have hwj : wrap64 ((j : Int) + 1) = ((j + 1 : Nat) : Int) := by have := HL.out; unfold wrap64; omega
    exact ⟨j + 1, by first | rfl | rw [hwj] | simp, by omega, HB9⟩
   case measure =>
    have hwj : wrap64 ((j : Int) + 1) = ((j + 1 : Nat) : Int) := by have := HL.out; unfold wrap64; omega
    try rw [hwj]
    simp [intOf]
    omega
  ·have hji : ¬ (j : Int) < (qs.length : Int) := by omega
   obtain rfl : j = qs.length := by omega
   go_wp2_with fail
   go_ret
   exact ⟨rfl, HBJ.out⟩
end Go.Proofs.YtgljdfblgpdaaaaGreatDoor
