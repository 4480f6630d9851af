/- The laws' helpers: short, Same, and what a region that loads two integers holds. -/
import Derived.Test.YtaaipcjbmdbndaaDoorNumEx
import Derived.Deep.RegionHeld3
namespace Go.Proofs.YtaaipcjbmdbndaaDoor
open Go.RowKit

theorem bdn {w w' : World} {n : Nat} (h : Below (w.drewN n).heap.size (w.drewN n) w') : Below w.heap.size w w' := ⟨h.os, h.tape, h.output, h.size, h.block⟩

set_option maxRecDepth 100000 in
set_option maxHeartbeats 400000 in
theorem short_wide (n : Nat) (a b c : Bool) (A B C : Option Addr) (x y z cx cy cz : Nat) (w : World) (hn : n ≤ 4000000000) (r : Bool) (hr : (decide (x ≤ n) && decide (y ≤ n) && decide (z ≤ n)) = r) :
    Calls Tryd.prog 9 #[.int .i64 (n : Int), .agg #[.bool a, .slice A x cx], .agg #[.bool b, .slice B y cy], .agg #[.bool c, .slice C z cz]] w fun e w' => e = .returned (.bool r) ∧ Below w.heap.size w w' := by
  subst hr
  go_enter Tryd.func9, Tryd.ntmps9
  by_cases h1 : x ≤ n
  · have h1i : (x : Int) ≤ (n : Int) := by omega
    by_cases h2 : y ≤ n
    · have h2i : (y : Int) ≤ (n : Int) := by omega
      by_cases h3 : z ≤ n
      · have h3i : (z : Int) ≤ (n : Int) := by omega
        go_wp2_with fail
        go_ret
        exact ⟨ret_bool (by simp [h1, h2, h3]), ba (ba (ba (b0 _) _) _) _⟩
      · have h3i : ¬ (z : Int) ≤ (n : Int) := by omega
        go_wp2_with fail
        go_ret
        exact ⟨ret_bool (by simp [h3]), ba (ba (ba (b0 _) _) _) _⟩
    · have h2i : ¬ (y : Int) ≤ (n : Int) := by omega
      go_wp2_with fail
      go_ret
      exact ⟨ret_bool (by simp [h2]), ba (ba (ba (b0 _) _) _) _⟩
  · have h1i : ¬ (x : Int) ≤ (n : Int) := by omega
    go_wp2_with fail
    go_ret
    exact ⟨ret_bool (by simp [h1]), ba (ba (ba (b0 _) _) _) _⟩

theorem box4 {W : World} {p q : Nat} {u v x y : Value} (h : Box2 W p u v) (k : Box2 W q x y) : W.cell? ⟨p, 0, none⟩ = some u ∧ W.cell? ⟨p, 1, none⟩ = some v ∧ W.cell? ⟨q, 0, none⟩ = some x ∧ W.cell? ⟨q, 1, none⟩ = some y :=
  ⟨h.cell0, h.cell1, k.cell0, k.cell1⟩
theorem ires_len {n : Bool} {l0 l : List Nat} {z : Int} (hz : zI n l = z) (hB : isB n l = true) (hw : ∀ x ∈ l0, x < 4294967296) (h : z.natAbs = val l0 ∨ z = 0) : l.length ≤ l0.length := by
  have e : val l = z.natAbs := by rw [← hz]; unfold zI; split <;> simp
  rcases h with h | h
  · exact top_len (isB_top hB) (by rw [e, h]; exact val_lt hw)
  · have : val l = 0 := by rw [e, h]; rfl
    rw [(val_eq_zero (isB_top hB)).1 this]; omega

theorem same_of {w : World} {z : Int} {n1 n2 : Bool} {A B : Option Addr} {c d : Nat} {l k : List Nat} (hl : WS w A l) (hk : WS w B k) (h1 : isB n1 l = true) (h2 : isB n2 k = true) (e1 : zI n1 l = z) (e2 : zI n2 k = z) (hm : l.length ≤ 4000000) (hm2 : k.length ≤ 4000000) :
    Calls Tryd.prog 13 #[.agg #[.bool n1, .slice A l.length c], .agg #[.bool n2, .slice B k.length d]] w fun e w' => e = .returned (.bool true) ∧ Below w.heap.size w w' := by
  have h := RSame_any n1 n2 A B l.length c k.length d l k w rfl rfl hm hm2 hl hk
  rw [same_iff hl.1 hk.1 h1 h2, e1, e2, decide_eq_true rfl] at h
  exact h

end Go.Proofs.YtaaipcjbmdbndaaDoor
