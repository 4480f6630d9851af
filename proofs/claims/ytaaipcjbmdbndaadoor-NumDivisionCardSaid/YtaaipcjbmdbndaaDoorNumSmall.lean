/- own, single, fromSingle, compare, bitLen. -/
import Derived.Test.YtaaipcjbmdbndaaDoorNumA
import Derived.Test.YtaaipcjbmdbndaaDoorNumMk
import Derived.Laws.BitsAllLaws
import Derived.OwnWalk
namespace Go.Proofs.YtaaipcjbmdbndaaDoor
open Go.RowKit

theorem addr_add (b o j : Nat) : (⟨b, o, none⟩ : Addr).add j = ⟨b, o + j, none⟩ := by unfold Addr.add; split <;> simp_all
/-- The word y above the word x. -/
theorem or64 (x y : Nat) (hx : x < 4294967296) (hy : y < 4294967296) : bits BinOp.or IntKind.u64 (x : Int) ((y : Int) * 4294967296) = ((x + 4294967296 * y : Nat) : Int) := by
  have h := u64_or_nat x (y * 4294967296) (by omega) (by omega)
  rw [show ((y : Int) * 4294967296) = ((y * 4294967296 : Nat) : Int) from by simp, h]
  congr 1
  have h2 := Nat.shiftLeft_add_eq_or_of_lt (i := 32) (b := x) (by simpa using hx) y
  rw [Nat.shiftLeft_eq] at h2
  rw [Nat.or_comm, show y * 4294967296 = y * 2 ^ 32 from rfl, ← h2]
  omega
theorem or64' (x y : Nat) (hx : x < 4294967296) (hy : y < 4294967296) : bits BinOp.or IntKind.u64 ((y : Int) * 4294967296) (x : Int) = ((x + 4294967296 * y : Nat) : Int) := by
  have h := u64_or_nat (y * 4294967296) x (by omega) (by omega)
  rw [show ((y : Int) * 4294967296) = ((y * 4294967296 : Nat) : Int) from by simp, h]
  congr 1
  have h2 := Nat.shiftLeft_add_eq_or_of_lt (i := 32) (b := x) (by simpa using hx) y
  rw [Nat.shiftLeft_eq] at h2
  rw [show y * 4294967296 = y * 2 ^ 32 from rfl, ← h2]
  omega

set_option maxRecDepth 100000 in
set_option maxHeartbeats 400000 in
theorem fromSingle_any (a w : World) (x : Nat) (hx : x < 18446744073709551616) (hw : Below a.heap.size a w) :
    Calls Tryd.prog 51 #[.int .u64 (x : Int)] w (Res a x) := by
  have hd : x / 4294967296 < 4294967296 := by omega
  have hmd : x % 4294967296 < 4294967296 := Nat.mod_lt _ (by decide)
  go_enter Tryd.func51, Tryd.ntmps51
  go_wp2_with fail
  rw [show (#[Value.int IntKind.u32 (↑x % 4294967296), Value.int IntKind.u32 (↑x / 4294967296)] : Array Value) = words [x % 4294967296, x / 4294967296] from by simp [words]]
  have hb := Blk.new w [x % 4294967296, x / 4294967296] (by simp; omega)
  refine (trim_own a _ w.heap.size 2 2 [x % 4294967296, x / 4294967296] x (by omega) (by omega) hw.size hb (by simp) ?_ (ba hw _)).mono ?_
  · simp [val]; omega
  · rintro e w1 h
    obtain ⟨A, c, l, rfl, hR⟩ := h
    go_wp2_with fail
    go_ret
    exact ⟨A, c, l, rfl, hR⟩

set_option maxRecDepth 100000 in
set_option maxHeartbeats 400000 in
theorem single_any (A : Option Addr) (n c : Nat) (l : List Nat) (w : World) (hn : l.length = n) (hm : n ≤ 4000000) (hws : WS w A l) :
    Calls Tryd.prog 63 #[.slice A n c] w fun e w' => e = .returned (.int .u64 ((gd l 0 + 4294967296 * gd l 1 : Nat) : Int)) ∧ w = w' := by
  subst hn
  have h0 := hws.lt 0
  have h1 := hws.lt 1
  go_enter Tryd.func63, Tryd.ntmps63
  go_wp2_with fail
  refine (wordAt_any A _ c 0 l _ rfl hm (by omega) (by omega) hws).mono ?_
  rintro e w1 ⟨rfl, rfl⟩
  go_wp2_with fail
  refine (wordAt_any A _ c 1 l _ rfl hm (by omega) (by omega) hws).mono ?_
  rintro e w1 ⟨rfl, rfl⟩
  go_wp2_with fail
  go_ret
  have hbits : bits BinOp.or IntKind.u64 ((gd l 0 : Nat) : Int) (((gd l 1 : Nat) : Int) * 4294967296) = ((gd l 0 + 4294967296 * gd l 1 : Nat) : Int) := or64 _ _ h0 h1
  exact ⟨ret_int hbits, rfl⟩

theorem words_getElem? (l : List Nat) (j : Nat) (v : Value) (h : (l.map fun (x : Nat) => Value.int .u32 (x : Int))[j]? = some v) : j < l.length ∧ v = .int .u32 ((gd l j : Nat) : Int) := by
  rw [List.getElem?_map] at h
  rcases Nat.lt_or_ge j l.length with h1 | h1
  · rw [List.getElem?_eq_getElem h1] at h
    cases h
    exact ⟨h1, by rw [gd_at h1]⟩
  · rw [List.getElem?_eq_none h1] at h; cases h
theorem run_copy_all (w W : World) (g : Nat) (L : List Nat) (A : Option Addr) (c : Nat) (l : List Nat) (hL : L.length = l.length) (hb : Blk W g L) (hl : WS W A l) (hw : Below w.heap.size w W) (hg : w.heap.size ≤ g) :
    ∃ W1, (Builtin.copy_ #[22, 22] 3 #[.slice (some ⟨g, 0, none⟩) l.length l.length, .slice A l.length c]).run Tryd.prog W = .ok (goInt l.length) W1 ∧ Blk W1 g l ∧ Below w.heap.size w W1 := by
  by_cases h0 : l = []
  · subst h0
    have hL0 : L = [] := List.eq_nil_of_length_eq_zero hL
    subst hL0
    exact ⟨W, run_copy_none W 22 22 3 58 _ _ 0 0 0 c Tryd.underlying22 (by kernel_rfl) rfl, hb, hw⟩
  · obtain ⟨b, off, rfl, hlt, hc⟩ := hl.2 h0
    have h := run_copy_row (P := Tryd.prog) W 22 22 3 58 g 0 l.length l.length ⟨b, off, none⟩ l.length c (words L) 58 (l.map fun (x : Nat) => Value.int .u32 (x : Int)) Tryd.underlying22 (by kernel_rfl) hb.2 (by simp)
      (fun j v hj => by
        obtain ⟨hj1, rfl⟩ := words_getElem? l j v hj
        rw [addr_add]; exact hc j hj1) (by simp [words, hL]) (fun v hv => by obtain ⟨x, _, rfl⟩ := List.mem_map.1 hv; rfl)
    rw [List.length_map] at h
    have e : ((words L).toList.take 0 ++ (l.map fun (x : Nat) => Value.int .u32 (x : Int)) ++ (words L).toList.drop (0 + l.length)).toArray = words l := by simp [words, hL]
    rw [e] at h
    exact ⟨_, h, ⟨hl.1, setRow_heap W g _ _ _ _ hb.2⟩, below_setRow hw hg _⟩

set_option maxRecDepth 100000 in
set_option maxHeartbeats 400000 in
theorem own_any (a w : World) (A : Option Addr) (n c : Nat) (l : List Nat) (hn : l.length = n) (hm : n ≤ 4000000) (hws : WS w A l) (hw : Below a.heap.size a w) :
    Calls Tryd.prog 52 #[.slice A n c] w fun e w' => ∃ g, e = .returned (.slice (some ⟨g, 0, none⟩) n n) ∧ a.heap.size ≤ g ∧ Blk w' g l ∧ Below a.heap.size a w' := by
  subst hn
  have hmk := fun W => run_mk (l.length : Int) l.length rfl hm W
  obtain ⟨W1, hcp, hb1, hw1⟩ := run_copy_all w (w.alloc (.cells (words (zer l.length)) 58)) w.heap.size (zer l.length) A c l (zer_length _) (Blk.new w _ (zer_lt _)) (hws.below (ba (b0 _) _)) (ba (b0 _) _) (Nat.le_refl _)
  go_enter Tryd.func52, Tryd.ntmps52
  go_wp2_with fail
  go_ret
  exact ⟨w.heap.size, rfl, hw.size, hb1, bt hw hw1⟩
theorem own_res (a w : World) (A : Option Addr) (n c : Nat) (l : List Nat) (hn : l.length = n) (hm : n ≤ 4000000) (ht : Top l) (hws : WS w A l) (hw : Below a.heap.size a w) :
    Calls Tryd.prog 52 #[.slice A n c] w (Res a (val l)) :=
  (own_any a w A n c l hn hm hws hw).mono fun e w' h => by
    obtain ⟨g, rfl, hg, hb, hw'⟩ := h
    subst hn
    exact ⟨some ⟨g, 0, none⟩, l.length, l, rfl, Nat.le_refl _, fun _ => ⟨g, l, rfl, hg, hb, List.take_length, Nat.le_refl _⟩, ht, rfl, hw'⟩
end Go.Proofs.YtaaipcjbmdbndaaDoor
