/- Parse of texts that denote no integer; Print of 0 and of what is not canonical. -/
import Derived.Test.YtlloilbinobljaaGreatDoorNumParse
set_option linter.unusedSimpArgs false
set_option linter.unusedVariables false
namespace Go.Proofs.YtlloilbinobljaaGreatDoor
open Go.RowKit Go.Shelf

/-- A call of Parse returned 0 and an error. -/
def PErr (a : World) (er : Int) (e : Ending) (w' : World) : Prop := e = .returned (.tuple #[.agg #[.bool false, .slice none 0 0], .int .i64 er]) ∧ Below a.heap.size a w'

set_option maxRecDepth 100000 in
set_option maxHeartbeats 2000000 in
theorem Parse_form1 (w : World) (s t : ByteArray) (ng : Bool) (ht : pDig s = t) (hng : pNeg s = ng) (hd : digs t = false) (hlen : t.size ≤ 1000000) :
    Calls Tryz.prog 78 #[.string s] w (PErr w 3) := by
  refine (callsIn_wide (n := 5)).1 ?_
  refine callsIn_of_wp_marks Tryz.func78 rfl trivial ?_ rfl
  simp only [Tryz.ntmps78, List.size_toArray, List.length_cons, List.length_nil, Nat.reduceAdd, Nat.reduceSub, Array.replicate_succ, Array.replicate_zero, List.push_toArray, List.append_toArray, List.nil_append, List.cons_append]
  gi_wp2
  refine ⟨trivial, ?_⟩
  refine (callsIn_wide.2 (cut_any s _)).mono ?_
  rintro e w1 ⟨rfl, rfl⟩
  rw [ht, hng]
  gi_wp2
  refine ⟨trivial, ?_⟩
  refine (callsIn_wide.2 (isDigits_any t _ (by omega))).mono ?_
  rintro e w1 ⟨rfl, rfl⟩
  rw [hd]
  have hbx := Box2.new w (.bool false) (.slice none 0 0)
  obtain ⟨W0, hW0⟩ : ∃ W0, W0 = w.alloc (.cells #[.bool false, .slice none 0 0] 24) := ⟨_, rfl⟩
  have hb0 : Below w.heap.size w W0 := by rw [hW0]; exact ba (b0 _) _
  rw [← hW0] at hbx ⊢
  clear hW0
  have x0 := hbx.cell0
  have x1 := hbx.cell1
  have f0 := hbx.free 0
  have f1 := hbx.free 1
  obtain ⟨k0, k1, k2⟩ := hbx.back (.bool false) (.slice none 0 0)
  gi_wp2
  refine ⟨.tuple #[.agg #[.bool false, .slice none 0 0], .int .i64 3], by simp [results, Tryz.results78, go_sem, k0, k2], rfl, b2 hb0 (Nat.le_refl _) _ _⟩

set_option maxRecDepth 100000 in
set_option maxHeartbeats 2000000 in
theorem Parse_form2 (w : World) (s t : ByteArray) (ng : Bool) (ht : pDig s = t) (hng : pNeg s = ng) (hd : digs t = true) (hpos : 0 < t.size) (h48i : (t[0].toNat : Int) = 48) (hs : (!s.toList == [48]) = true) (hlen : t.size ≤ 1000000) :
    Calls Tryz.prog 78 #[.string s] w (PErr w 3) := by
  refine (callsIn_wide (n := 5)).1 ?_
  refine callsIn_of_wp_marks Tryz.func78 rfl trivial ?_ rfl
  simp only [Tryz.ntmps78, List.size_toArray, List.length_cons, List.length_nil, Nat.reduceAdd, Nat.reduceSub, Array.replicate_succ, Array.replicate_zero, List.push_toArray, List.append_toArray, List.nil_append, List.cons_append]
  gi_wp2
  refine ⟨trivial, ?_⟩
  refine (callsIn_wide.2 (cut_any s _)).mono ?_
  rintro e w1 ⟨rfl, rfl⟩
  rw [ht, hng]
  gi_wp2
  refine ⟨trivial, ?_⟩
  refine (callsIn_wide.2 (isDigits_any t _ (by omega))).mono ?_
  rintro e w1 ⟨rfl, rfl⟩
  rw [hd]
  have hposi : (0 : Int) < (t.size : Int) := by omega
  have hbx := Box2.new w (.bool false) (.slice none 0 0)
  obtain ⟨W0, hW0⟩ : ∃ W0, W0 = w.alloc (.cells #[.bool false, .slice none 0 0] 24) := ⟨_, rfl⟩
  have hb0 : Below w.heap.size w W0 := by rw [hW0]; exact ba (b0 _) _
  rw [← hW0] at hbx ⊢
  clear hW0
  have x0 := hbx.cell0
  have x1 := hbx.cell1
  have f0 := hbx.free 0
  have f1 := hbx.free 1
  obtain ⟨k0, k1, k2⟩ := hbx.back (.bool false) (.slice none 0 0)
  gi_wp2
  refine ⟨.tuple #[.agg #[.bool false, .slice none 0 0], .int .i64 3], by simp [results, Tryz.results78, go_sem, k0, k2], rfl, b2 hb0 (Nat.le_refl _) _ _⟩

set_option maxRecDepth 100000 in
set_option maxHeartbeats 2000000 in
theorem Parse_limit (w : World) (s t : ByteArray) (ng : Bool) (ht : pDig s = t) (hng : pNeg s = ng) (hd : digs t = true) (hpos : 0 < t.size) (h48i : ((t[0].toNat : Int) == 48) = false) (hbig : 20000 < t.size) (hlen : t.size ≤ 1000000) :
    Calls Tryz.prog 78 #[.string s] w (PErr w 2) := by
  refine (callsIn_wide (n := 5)).1 ?_
  refine callsIn_of_wp_marks Tryz.func78 rfl trivial ?_ rfl
  simp only [Tryz.ntmps78, List.size_toArray, List.length_cons, List.length_nil, Nat.reduceAdd, Nat.reduceSub, Array.replicate_succ, Array.replicate_zero, List.push_toArray, List.append_toArray, List.nil_append, List.cons_append]
  gi_wp2
  refine ⟨trivial, ?_⟩
  refine (callsIn_wide.2 (cut_any s _)).mono ?_
  rintro e w1 ⟨rfl, rfl⟩
  rw [ht, hng]
  gi_wp2
  refine ⟨trivial, ?_⟩
  refine (callsIn_wide.2 (isDigits_any t _ (by omega))).mono ?_
  rintro e w1 ⟨rfl, rfl⟩
  rw [hd]
  have hposi : (0 : Int) < (t.size : Int) := by omega
  have hbi : (20000 : Int) < (t.size : Int) := by omega
  have hbx := Box2.new w (.bool false) (.slice none 0 0)
  obtain ⟨W0, hW0⟩ : ∃ W0, W0 = w.alloc (.cells #[.bool false, .slice none 0 0] 24) := ⟨_, rfl⟩
  have hb0 : Below w.heap.size w W0 := by rw [hW0]; exact ba (b0 _) _
  rw [← hW0] at hbx ⊢
  clear hW0
  have x0 := hbx.cell0
  have x1 := hbx.cell1
  have f0 := hbx.free 0
  have f1 := hbx.free 1
  obtain ⟨k0, k1, k2⟩ := hbx.back (.bool false) (.slice none 0 0)
  gi_wp2
  refine ⟨.tuple #[.agg #[.bool false, .slice none 0 0], .int .i64 2], by simp [results, Tryz.results78, go_sem, k0, k2], rfl, b2 hb0 (Nat.le_refl _) _ _⟩

set_option maxRecDepth 100000 in
set_option maxHeartbeats 2000000 in
theorem Print_form (w : World) (ng : Bool) (A : Option Addr) (c : Nat) (l : List Nat) (hm : l.length ≤ 1000000) (hl : WS w A l) (hB : isB ng l = false) :
    Calls Tryz.prog 88 #[.agg #[.bool ng, .slice A l.length c]] w fun e w' => e = .returned (.string ⟨#[]⟩) ∧ Below w.heap.size w w' := by
  have HB := Lib.hid hB
  clear hB
  refine (callsIn_wide (n := 5)).1 ?_
  refine callsIn_of_wp_marks Tryz.func88 rfl trivial ?_ rfl
  simp only [Tryz.ntmps88, List.size_toArray, List.length_cons, List.length_nil, Nat.reduceAdd, Nat.reduceSub, Array.replicate_succ, Array.replicate_zero, List.push_toArray, List.append_toArray, List.nil_append, List.cons_append]
  gi_wp2
  refine ⟨trivial, ?_⟩
  refine (callsIn_wide.2 (Is_any ng A l.length c l _ rfl (by omega) (hl.below (ba (b0 _) _)))).mono ?_
  rintro e w1 ⟨rfl, hb1⟩
  rw [HB.out]
  gi_wp2
  exact ⟨_, results_tmp rfl _ _ _, rfl, bt (ba (b0 _) _) hb1⟩

set_option maxRecDepth 100000 in
set_option maxHeartbeats 2000000 in
theorem Print_zero (w : World) (A : Option Addr) (c : Nat) :
    Calls Tryz.prog 88 #[.agg #[.bool false, .slice A 0 c]] w fun e w' => e = .returned (.string ⟨#[48]⟩) ∧ Below w.heap.size w w' := by
  refine (callsIn_wide (n := 5)).1 ?_
  refine callsIn_of_wp_marks Tryz.func88 rfl trivial ?_ rfl
  simp only [Tryz.ntmps88, List.size_toArray, List.length_cons, List.length_nil, Nat.reduceAdd, Nat.reduceSub, Array.replicate_succ, Array.replicate_zero, List.push_toArray, List.append_toArray, List.nil_append, List.cons_append]
  gi_wp2
  refine ⟨trivial, ?_⟩
  refine (callsIn_wide.2 (Is_any false A 0 c [] _ rfl (by omega) (WS.nil_ _ _))).mono ?_
  rintro e w1 ⟨rfl, hb1⟩
  rw [show isB false [] = true from rfl]
  have hbx := (Box2.new w (.bool false) (.slice A 0 c)).below hb1
  have y0 := hbx.cell0
  have y1 := hbx.cell1
  gi_wp2
  exact ⟨_, results_tmp rfl _ _ _, rfl, bt (ba (b0 _) _) hb1⟩
end Go.Proofs.YtlloilbinobljaaGreatDoor
