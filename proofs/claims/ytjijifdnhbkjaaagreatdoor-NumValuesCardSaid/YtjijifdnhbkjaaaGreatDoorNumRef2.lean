/- The specification of num: Same and Of. -/
import Derived.Test.YtjijifdnhbkjaaaGreatDoorNumRef
import Derived.Test.YtjijifdnhbkjaaaGreatDoorNumCmp
namespace Go.Proofs.YtjijifdnhbkjaaaGreatDoor
open Go.RowKit

theorem list_eq_gd {l k : List Nat} (h : l.length = k.length) (hg : ∀ j, j < l.length → gd l j = gd k j) : l = k := by
  refine List.ext_getElem h fun j h1 h2 => ?_
  have := hg j h1
  rwa [gd_at h1, gd_at h2] at this

set_option maxRecDepth 100000 in
set_option maxHeartbeats 1000000 in
theorem RSame_any (na nb : Bool) (A B : Option Addr) (n c m d : Nat) (l k : List Nat) (w : World) (hn : l.length = n) (hm : k.length = m) (hn2 : n ≤ 4000000) (hm2 : m ≤ 4000000) (hl : WS w A l) (hk : WS w B k) :
    Calls Tryz.prog 12 #[.agg #[.bool na, .slice A n c], .agg #[.bool nb, .slice B m d]] w fun e w' => e = .returned (.bool (na == nb && decide (l = k))) ∧ Below w.heap.size w w' := by
  subst hn hm
  by_cases h1 : na = nb
  · subst h1
    by_cases h2 : l.length = k.length
    · have e1 : ((l.length : Int) != (k.length : Int)) = false := by simp; omega
      have H2 := Lib.hid h2
      clear h2
      go_enter Tryz.func12, Tryz.ntmps12
      go_wp2_with fail
      obtain ⟨W1, hW1⟩ : ∃ W, W = (w.alloc (.cells #[.bool na, .slice A l.length c] 24)).alloc (.cells #[.bool na, .slice B k.length d] 24) := ⟨_, rfl⟩
      have x0 : Box2 W1 w.heap.size (.bool na) (.slice A l.length c) := by rw [hW1]; exact (Box2.new w _ _).alloc _
      have x1 : Box2 W1 (w.heap.size + 1) (.bool na) (.slice B k.length d) := by
        rw [hW1]
        have h := Box2.new (w.alloc (.cells #[.bool na, .slice A l.length c] 24)) (.bool na) (.slice B k.length d)
        rwa [World.size_alloc] at h
      have hw1 : Below w.heap.size w W1 := by rw [hW1]; exact ba (ba (b0 _) _) _
      rw [← hW1]
      have hl1 := hl.below hw1
      have hk1 := hk.below hw1
      have HB := Lib.hid hw1
      clear hW1 hl hk hw1
      go_loopw [5] (fun iv wr => ∃ i : Nat, iv = .int .i64 (i : Int) ∧ i ≤ l.length ∧ (∀ j, j < i → gd l j = gd k j) ∧ Below W1.heap.size W1 wr) (fun iv _ => l.length - (intOf iv).toNat)
      case atStart => exact ⟨0, rfl, Nat.zero_le _, fun j hj => absurd hj (by omega), b0 _⟩
      case round =>
        obtain ⟨i, rfl, hi, hpre, hwr⟩ := hrel
        have HPR := Lib.hid hpre
        clear hpre
        have c0 := (x0.below hwr).cell1
        have c1 := (x1.below hwr).cell1
        rcases Nat.lt_or_ge i l.length with hlt | hge
        · have hlti : (i : Int) < (l.length : Int) := by omega
          obtain ⟨b, off, rfl, hb1, hc1⟩ := (hl1.below hwr).at_ (by omega)
          obtain ⟨b', off', rfl, hb2, hc2⟩ := (hk1.below hwr).at_ (by have := H2.out; omega)
          have d1 := hc1 i hlt
          have d2 := hc2 i (by have := H2.out; omega)
          have hltk : (i : Int) < (k.length : Int) := by have := H2.out; omega
          have hx := hl1.lt i
          have hy := hk1.lt i
          clear hc1 hc2
          by_cases hg : gd l i = gd k i
          · have HG := Lib.hid hg
            have hne : (((gd l i : Nat) : Int) != ((gd k i : Nat) : Int)) = false := by rw [hg]; simp
            clear hg
            go_wp2_with fail
            go_quiet (fail)
            go_wp2_with fail
            go_roundw
            case rel =>
              refine ⟨i + 1, by go_num, by omega, fun j hj => ?_, bd hwr _⟩
              rcases Nat.lt_or_ge j i with h | h
              · exact HPR.out j h
              · rw [show j = i from by omega]; exact HG.out
            case measure => simp [intOf]; omega
          · have HG := Lib.hid hg
            have hne : (((gd l i : Nat) : Int) != ((gd k i : Nat) : Int)) = true := by simp; omega
            clear hg
            go_wp2_with fail
            go_quiet (fail)
            go_wp2_with fail
            go_ret
            exact ⟨ret_bool (by have : l ≠ k := fun h => HG.out (by rw [h]); simp [this]), bd (bt HB.out hwr) _⟩
        · have hnlt : ¬ (i : Int) < (l.length : Int) := by omega
          go_wp2_with fail
          go_ret
          exact ⟨ret_bool (by have : l = k := list_eq_gd H2.out (fun j hj => HPR.out j (by omega)); simp [this]), bt HB.out hwr⟩
    · have e1 : ((l.length : Int) != (k.length : Int)) = true := by simp; omega
      have hne : l ≠ k := fun h => h2 (by rw [h])
      have HN := Lib.hid hne
      clear hne
      go_enter Tryz.func12, Tryz.ntmps12
      go_wp2_with fail
      go_ret
      exact ⟨ret_bool (by have := HN.out; simp [this]), ba (ba (b0 _) _) _⟩
  · have e1 : (na != nb) = true := by simpa using h1
    have H1 := Lib.hid h1
    clear h1
    go_enter Tryz.func12, Tryz.ntmps12
    go_wp2_with fail
    go_ret
    exact ⟨ret_bool (by have := H1.out; simp [this]), ba (ba (b0 _) _) _⟩
end Go.Proofs.YtjijifdnhbkjaaaGreatDoor
