/- The specification's copies of integers. -/
import Derived.Test.YtaaipcjbmdbndaaDoorNumRef
import Derived.Deep.RegionHeldLaw
import Derived.Deep.AppendLies
import Derived.Deep.AppendSrc
set_option linter.unusedSimpArgs false
set_option linter.unusedVariables false
namespace Go.Proofs.YtaaipcjbmdbndaaDoor
open Go.RowKit

set_option maxRecDepth 100000 in
set_option maxHeartbeats 1000000 in
theorem RStays_any (na nb : Bool) (A B : Option Addr) (n c m d : Nat) (l k : List Nat) (w : World) (hn : l.length = n) (hm : k.length = m) (hn2 : n ≤ 4000000) (hm2 : m ≤ 4000000) (hl : WS w A l) (hk : WS w B k) :
    Calls Tryd.prog 35 #[.agg #[.bool na, .slice A n c], .agg #[.bool nb, .slice B m d]] w fun e w' => e = .returned (.bool (na == nb && decide (l = k))) ∧ Below w.heap.size w w' := by
  subst hn hm
  by_cases h1 : na = nb
  · subst h1
    by_cases h2 : l.length = k.length
    · have e1 : ((l.length : Int) != (k.length : Int)) = false := by simp; omega
      have H2 := Lib.hid h2
      clear h2
      go_enter Tryd.func35, Tryd.ntmps35
      go_wp2_with fail
      obtain ⟨W1, hW1⟩ : ∃ W, W = (w.alloc (.cells #[.bool na, .slice A l.length c] 24)).alloc (.cells #[.bool na, .slice B k.length d] 24) := ⟨_, rfl⟩
      have x0 : Box2 W1 w.heap.size (.bool na) (.slice A l.length c) := by rw [hW1]; exact (Box2.new w _ _).alloc _
      have x1 : Box2 W1 (w.heap.size + 1) (.bool na) (.slice B k.length d) := by
        rw [hW1]
        have h := Box2.new (w.alloc (.cells #[.bool na, .slice A l.length c] 24)) (.bool na) (.slice B k.length d)
        rwa [World.size_alloc] at h
      have hw1 : Below w.heap.size w W1 := by rw [hW1]; exact ba (ba (b0 _) _) _
      rw [← hW1]
      have hl1 := hl.below hw1
      have hk1 := hk.below hw1
      have HB := Lib.hid hw1
      clear hW1 hl hk hw1
      go_loopw [5] (fun iv wr => ∃ i : Nat, iv = .int .i64 (i : Int) ∧ i ≤ l.length ∧ (∀ j, j < i → gd l j = gd k j) ∧ Below W1.heap.size W1 wr) (fun iv _ => l.length - (intOf iv).toNat)
      case atStart => exact ⟨0, rfl, Nat.zero_le _, fun j hj => absurd hj (by omega), b0 _⟩
      case round =>
        obtain ⟨i, rfl, hi, hpre, hwr⟩ := hrel
        have HPR := Lib.hid hpre
        clear hpre
        have c0 := (x0.below hwr).cell1
        have c1 := (x1.below hwr).cell1
        rcases Nat.lt_or_ge i l.length with hlt | hge
        · have hlti : (i : Int) < (l.length : Int) := by omega
          obtain ⟨b, off, rfl, hb1, hc1⟩ := (hl1.below hwr).at_ (by omega)
          obtain ⟨b', off', rfl, hb2, hc2⟩ := (hk1.below hwr).at_ (by have := H2.out; omega)
          have d1 := hc1 i hlt
          have d2 := hc2 i (by have := H2.out; omega)
          have hltk : (i : Int) < (k.length : Int) := by have := H2.out; omega
          have hx := hl1.lt i
          have hy := hk1.lt i
          clear hc1 hc2
          by_cases hg : gd l i = gd k i
          · have HG := Lib.hid hg
            have hne : (((gd l i : Nat) : Int) != ((gd k i : Nat) : Int)) = false := by rw [hg]; simp
            clear hg
            go_wp2_with fail
            go_quiet (fail)
            go_wp2_with fail
            go_roundw
            case rel =>
              refine ⟨i + 1, by go_num, by omega, fun j hj => ?_, bd hwr _⟩
              rcases Nat.lt_or_ge j i with h | h
              · exact HPR.out j h
              · rw [show j = i from by omega]; exact HG.out
            case measure => simp [intOf]; omega
          · have HG := Lib.hid hg
            have hne : (((gd l i : Nat) : Int) != ((gd k i : Nat) : Int)) = true := by simp; omega
            clear hg
            go_wp2_with fail
            go_quiet (fail)
            go_wp2_with fail
            go_ret
            exact ⟨ret_bool (by have : l ≠ k := fun h => HG.out (by rw [h]); simp [this]), bd (bt HB.out hwr) _⟩
        · have hnlt : ¬ (i : Int) < (l.length : Int) := by omega
          go_wp2_with fail
          go_ret
          exact ⟨ret_bool (by have : l = k := list_eq_gd H2.out (fun j hj => HPR.out j (by omega)); simp [this]), bt HB.out hwr⟩
    · have e1 : ((l.length : Int) != (k.length : Int)) = true := by simp; omega
      have hne : l ≠ k := fun h => h2 (by rw [h])
      have HN := Lib.hid hne
      clear hne
      go_enter Tryd.func35, Tryd.ntmps35
      go_wp2_with fail
      go_ret
      exact ⟨ret_bool (by have := HN.out; simp [this]), ba (ba (b0 _) _) _⟩
  · have e1 : (na != nb) = true := by simpa using h1
    have H1 := Lib.hid h1
    clear h1
    go_enter Tryd.func35, Tryd.ntmps35
    go_wp2_with fail
    go_ret
    exact ⟨ret_bool (by have := H1.out; simp [this]), ba (ba (b0 _) _) _⟩
end Go.Proofs.YtaaipcjbmdbndaaDoor

/- The specification of num: Of and cmpWords. -/
namespace Go.Proofs.YtaaipcjbmdbndaaDoor
open Go.RowKit

/-- append of nothing to a slice that lies in a block. -/
theorem step_append_none {P : Program} {ops : Array Oper} {o : Oper} {a : Act} {w : World} {K : Act → World → Prop} {Q : Exit → Act → World → Prop} {E : Prop}
    (hg : o.guard = none) (s x : Operand) (t : TypeId) (hop : o.op = Op.call { callee := Callee.builtin Builtin.append, args := #[s, x], argTypes := #[t, t] })
    (e : TypeId) (i : TypeInfo) (h1 : P.underlying t = some (.slice e)) (h2 : P.info? e = some i)
    (b off cap : Nat) (hs : a.eval s = .slice (some ⟨b, off, none⟩) 0 cap) (A : Option Addr) (c : Nat) (hx : a.eval x = .slice A 0 c)
    (hK : K (a.put o.dst (.slice (some ⟨b, off, none⟩) 0 cap)) w) :
    if Region.wanted o (yielded ops a.tmps) = true then Oper.wp P o a w K Q else E := by
  have hw : Region.wanted o (yielded ops a.tmps) = true := by simp [Region.wanted, hg]
  rw [if_pos hw]
  have hsrc : Src P i.size t (.slice A 0 c) 0 [] w := by
    cases A with
    | none => exact Src.ofNil w h1 c
    | some q => exact Src.ofSlice w h1 q 0 c [] (by simp) (by simp) (by simp)
  have hrun := run_append_room_src (P := P) w t t o.type e i h1 h2 b off 0 cap (.slice A 0 c) 0 [] hsrc (by omega) (by simp) (by simp)
  unfold Oper.wp
  simp [execOp, hop, resolve, invoke, builtin, hs, hx, hrun, Result.andThen, World.setCells]
  exact hK

/-- What Clone returns: the words, in memory of their own. -/
def CloneP (w : World) (neg : Bool) (l : List Nat) (e : Ending) (w' : World) : Prop :=
  ∃ B d, e = .returned (.agg #[.bool neg, .slice B l.length d]) ∧ WS w' B l ∧ (∀ p, p < w.heap.size → Off B l p) ∧ (∀ p, w'.heap.size ≤ p → Off B l p) ∧ Below w.heap.size w w'
theorem own_empty1 (w : World) : (w.alloc (.cells #[] 58)).ownsRow w.heap.size 58 1 (.slice (some ⟨w.heap.size, 0, none⟩) 0 0) 0 [] :=
  ⟨rfl, .inr ⟨w.heap.size, 0, #[], rfl, Nat.le_refl _, heap_alloc_new w _, Nat.le_refl _, by simp [maxLen], rfl, rfl⟩⟩

set_option maxRecDepth 100000 in
set_option maxHeartbeats 1000000 in
theorem Clone_nil (w : World) (neg : Bool) (A : Option Addr) (c : Nat) :
    Calls Tryd.prog 31 #[.agg #[.bool neg, .slice A 0 c]] w (CloneP w neg []) := by
  obtain ⟨i0, hi0, hz0, hz1, hz2⟩ := info_v
  go_enter Tryd.func31, Tryd.ntmps31
  go_wp2_with fail
  obtain ⟨W1, hW1⟩ : ∃ W, W = (w.alloc (.cells #[.bool neg, .slice A 0 c] 24)).alloc (.cells #[.bool false, .slice none 0 0] 24) := ⟨_, rfl⟩
  have x0 : Box2 W1 w.heap.size (.bool neg) (.slice A 0 c) := by rw [hW1]; exact (Box2.new w _ _).alloc _
  have x1 : Box2 W1 (w.heap.size + 1) (.bool false) (.slice none 0 0) := by
    rw [hW1]
    have h := Box2.new (w.alloc (.cells #[.bool neg, .slice A 0 c] 24)) (.bool false) (.slice none 0 0)
    rwa [World.size_alloc] at h
  have hw1 : Below w.heap.size w W1 := by rw [hW1]; exact ba (ba (b0 _) _) _
  rw [← hW1]
  clear hW1
  have c0 := x0.cell0
  have c1 := x0.cell1
  have d0 := x1.cell0
  have d1 := x1.cell1
  have f0 := x1.free 0
  have f1 := x1.free 1
  have l1 := x1.lt
  have HS : Hid (∀ W, Below W1.heap.size W1 W → W.cell? ⟨w.heap.size, 0, none⟩ = some (.bool neg) ∧ W.cell? ⟨w.heap.size, 1, none⟩ = some (.slice A 0 c)) := fun W hb => ⟨(x0.below hb).cell0, (x0.below hb).cell1⟩
  go_region_held_law (fun W => W.cell? ⟨w.heap.size, 0, none⟩ = some (.bool neg) ∧ W.cell? ⟨w.heap.size, 1, none⟩ = some (.slice A 0 c))
    (first | exact HS.out _ (bw (b0 _)) | exact HS.out _ (ba (bw (b0 _)) _) | exact HS.out _ (ba (b0 _) _) | go_keep)
    (first
      | (refine step_append_none rfl _ _ _ rfl 58 i0 Tryd.underlying22 hi0 _ _ _ rfl _ _ rfl ?_))
  all_goals (go_wp2_with fail)
  all_goals
    have z := ((x1.set0 (.bool neg)).set1 (.slice (some ⟨W1.heap.size, 0, none⟩) 0 0)).alloc (.cells #[] 58)
    have k0 := z.cell0
    have k1 := z.cell1
    refine bodyPost_ret (v := .agg #[.bool neg, .slice (some ⟨W1.heap.size, 0, none⟩) 0 0]) (by simp [results, Tryd.results31, go_sem, k0, k1]) rfl ?_
    exact ⟨some ⟨W1.heap.size, 0, none⟩, 0, rfl, WS.nil_ _ _, fun _ _ h => absurd rfl h, fun _ _ h => absurd rfl h, bw (ba (b2 hw1 (by omega) _ _) _)⟩
set_option maxRecDepth 100000 in
set_option maxHeartbeats 1000000 in
theorem Clone_some (w : World) (neg : Bool) (A : Option Addr) (c : Nat) (l : List Nat) (h0 : 0 < l.length) (hm : l.length ≤ 4000000) (hl : WS w A l) :
    Calls Tryd.prog 31 #[.agg #[.bool neg, .slice A l.length c]] w (CloneP w neg l) := by
  obtain ⟨i0, hi0, hz0, hz1, hz2⟩ := info_v
  obtain ⟨b, off, rfl, hlt, -⟩ := hl.at_ h0
  go_enter Tryd.func31, Tryd.ntmps31
  go_wp2_with fail
  obtain ⟨W1, hW1⟩ : ∃ W, W = (w.alloc (.cells #[.bool neg, .slice (some ⟨b, off, none⟩) l.length c] 24)).alloc (.cells #[.bool false, .slice none 0 0] 24) := ⟨_, rfl⟩
  have x0 : Box2 W1 w.heap.size (.bool neg) (.slice (some ⟨b, off, none⟩) l.length c) := by rw [hW1]; exact (Box2.new w _ _).alloc _
  have x1 : Box2 W1 (w.heap.size + 1) (.bool false) (.slice none 0 0) := by
    rw [hW1]
    have h := Box2.new (w.alloc (.cells #[.bool neg, .slice (some ⟨b, off, none⟩) l.length c] 24)) (.bool false) (.slice none 0 0)
    rwa [World.size_alloc] at h
  have hw1 : Below w.heap.size w W1 := by rw [hW1]; exact ba (ba (b0 _) _) _
  rw [← hW1]
  clear hW1
  have hl1 := hl.below hw1
  have HN : Hid (∀ W, Below W1.heap.size W1 W → ∀ j u, (l.map fun (x : Nat) => Value.int .u32 (x : Int))[j]? = some u → W.cell? ((⟨b, off, none⟩ : Addr).add j) = some u) := fun W hb => by
    have h := news_ws (Nat.le_refl l.length) (hl1.below hb)
    rwa [List.take_length] at h
  have c0 := x0.cell0
  have c1 := x0.cell1
  have l1 := x1.lt
  have HS : Hid (∀ W, Below W1.heap.size W1 W → W.cell? ⟨w.heap.size, 0, none⟩ = some (.bool neg) ∧ W.cell? ⟨w.heap.size, 1, none⟩ = some (.slice (some ⟨b, off, none⟩) l.length c)) := fun W hb => ⟨(x0.below hb).cell0, (x0.below hb).cell1⟩
  go_region_held_law (fun W => W.cell? ⟨w.heap.size, 0, none⟩ = some (.bool neg) ∧ W.cell? ⟨w.heap.size, 1, none⟩ = some (.slice (some ⟨b, off, none⟩) l.length c))
    (first | exact ⟨y0, y1⟩ | exact ⟨(box2_far hx3 (by omega) _ _).cell0, (box2_far hx3 (by omega) _ _).cell1⟩ | exact HS.out _ (bw (b0 _)) | exact HS.out _ (ba (bw (b0 _)) _) | exact HS.out _ (ba (b0 _) _) | go_keep)
    (first
      | (refine step_append_lies _ rfl _ _ _ rfl W1.heap.size 58 i0 _ 1 4 Tryd.underlying22 hi0 hz0 hz1 hz2 rfl (by omega) (.slice (some ⟨W1.heap.size, 0, none⟩) 0 0) 0 [] rfl (own_empty1 _) ⟨b, off, none⟩ l.length c (l.map fun (x : Nat) => Value.int .u32 (x : Int)) rfl (by simp) (HN.out _ (by first | exact ba (bw (b0 _)) _ | exact bw (ba (b0 _) _))) one_words h0 (by simp only [maxLen]; omega) (by omega) (by simp) _ rfl ?_; intro g cap w3 hown hgrow hat hlt3; have hO : Only W1.heap.size (W1.alloc (.cells #[] 58)) w3 := ⟨hgrow.os, hgrow.tape, hgrow.output, hgrow.size, hgrow.block⟩; have hx3 := box2_only (x0.alloc (.cells #[] 58)) hO (by omega); have hz3 := box2_only (x1.alloc (.cells #[] 58)) hO (by omega); have y0 := hx3.cell0; have y1 := hx3.cell1; have q0 := hz3.cell0; have q1 := hz3.cell1; have f0 := hz3.free 0; have f1 := hz3.free 1))
  all_goals (go_wp2_with fail)
  all_goals
    rw [Nat.zero_add, List.nil_append] at hown
    obtain ⟨hcap, hws⟩ := ws_of_row hl.1 rfl hown h0 hlt3
    have z := ((hz3.set0 (.bool neg)).set1 (.slice (some ⟨g, 0, none⟩) l.length cap))
    have k0 := z.cell0
    have k1 := z.cell1
    have hgne : g ≠ w.heap.size + 1 := by
      rcases hat with h | h
      · simp [Value.ownBlock] at h; omega
      · simp at h; omega
    have hgge : w.heap.size ≤ g := by
      rcases hat with h | h
      · simp [Value.ownBlock] at h; omega
      · simp at h; omega
    refine bodyPost_ret (v := .agg #[.bool neg, .slice (some ⟨g, 0, none⟩) l.length cap]) (by simp [results, Tryd.results31, go_sem, k0, k1]) rfl ?_
    refine ⟨some ⟨g, 0, none⟩, cap, rfl, hws.two (fun _ b' o' e => by injection e with e; injection e with e1; omega) _ _, fun p hp _ b' o' e => (by injection e with e; injection e with e1; omega), fun p hp _ b' o' e => (by
      injection e with e; injection e with e1
      have : w3.heap.size ≤ p := by simpa [World.setCell] using hp
      omega), b2 (bo (ba hw1 _) hO (by omega)) (by omega) _ _⟩
theorem Clone_any (w : World) (neg : Bool) (A : Option Addr) (n c : Nat) (l : List Nat) (hn : l.length = n) (hm : n ≤ 4000000) (hl : WS w A l) :
    Calls Tryd.prog 31 #[.agg #[.bool neg, .slice A n c]] w (CloneP w neg l) := by
  subst hn
  rcases Nat.eq_zero_or_pos l.length with h | h
  · obtain rfl := List.eq_nil_of_length_eq_zero h
    exact Clone_nil w neg A c
  · exact Clone_some w neg A c l h hm hl
end Go.Proofs.YtaaipcjbmdbndaaDoor
