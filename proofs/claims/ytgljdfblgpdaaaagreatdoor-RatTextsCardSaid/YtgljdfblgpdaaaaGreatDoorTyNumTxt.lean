import Derived.Test.YtgljdfblgpdaaaaGreatDoorPbNumBackV
import Derived.Test.YtgljdfblgpdaaaaGreatDoorTyNumEx
import Derived.Test.YtgljdfblgpdaaaaGreatDoorTyNumParse
set_option linter.unusedSimpArgs false
set_option linter.unusedVariables false
set_option maxRecDepth 100000
set_option maxHeartbeats 4000000
namespace Go.Proofs.YtgljdfblgpdaaaaGreatDoor
open Go.RowKit Go.Shelf
def PErr (a : World) (er : Int) (e : Ending) (w' : World) : Prop := e = .returned (.tuple #[.agg #[.bool false, .slice none 0 0], .int .i64 er]) ∧ Below a.heap.size a w'
set_option maxRecDepth 100000 in
set_option maxHeartbeats 2000000 in
theorem Parse_form1 (w : World) (s t : ByteArray) (ng : Bool) (ht : pDig s = t) (hng : pNeg s = ng) (hd : digs t = false) (hlen : t.size ≤ 1000000) :
    Calls Tryz.prog 74 #[.string s] w (PErr w 3) := by
  refine (callsIn_wide (n := 5)).1 ?_
  refine callsIn_of_wp_marks Tryz.func74 rfl trivial ?_ rfl
  simp only [Tryz.ntmps74, List.size_toArray, List.length_cons, List.length_nil, Nat.reduceAdd, Nat.reduceSub, Array.replicate_succ, Array.replicate_zero, List.push_toArray, List.append_toArray, List.nil_append, List.cons_append]
  gi_wp2
  refine ⟨trivial, ?_⟩
  refine (callsIn_wide.2 (cut_any s _)).mono ?_
  rintro e w1 ⟨rfl, rfl⟩
  rw [ht, hng]
  gi_wp2
  refine ⟨trivial, ?_⟩
  refine (callsIn_wide.2 (isDigits_any t _ (by omega))).mono ?_
  rintro e w1 ⟨rfl, rfl⟩
  rw [hd]
  have hbx := Box2.new w (.bool false) (.slice none 0 0)
  obtain ⟨W0, hW0⟩ : ∃ W0, W0 = w.alloc (.cells #[.bool false, .slice none 0 0] 24) := ⟨_, rfl⟩
  have hb0 : Below w.heap.size w W0 := by rw [hW0]; exact ba (b0 _) _
  rw [← hW0] at hbx ⊢
  clear hW0
  have x0 := hbx.cell0
  have x1 := hbx.cell1
  have f0 := hbx.free 0
  have f1 := hbx.free 1
  obtain ⟨k0, k1, k2⟩ := hbx.back (.bool false) (.slice none 0 0)
  gi_wp2
  refine ⟨.tuple #[.agg #[.bool false, .slice none 0 0], .int .i64 3], by simp [results, Tryz.results74, go_sem, k0, k2], rfl, b2 hb0 (Nat.le_refl _) _ _⟩
set_option maxRecDepth 100000 in
set_option maxHeartbeats 2000000 in
theorem Parse_form2 (w : World) (s t : ByteArray) (ng : Bool) (ht : pDig s = t) (hng : pNeg s = ng) (hd : digs t = true) (hpos : 0 < t.size) (h48i : (t[0].toNat : Int) = 48) (hs : (!s.toList == [48]) = true) (hlen : t.size ≤ 1000000) :
    Calls Tryz.prog 74 #[.string s] w (PErr w 3) := by
  refine (callsIn_wide (n := 5)).1 ?_
  refine callsIn_of_wp_marks Tryz.func74 rfl trivial ?_ rfl
  simp only [Tryz.ntmps74, List.size_toArray, List.length_cons, List.length_nil, Nat.reduceAdd, Nat.reduceSub, Array.replicate_succ, Array.replicate_zero, List.push_toArray, List.append_toArray, List.nil_append, List.cons_append]
  gi_wp2
  refine ⟨trivial, ?_⟩
  refine (callsIn_wide.2 (cut_any s _)).mono ?_
  rintro e w1 ⟨rfl, rfl⟩
  rw [ht, hng]
  gi_wp2
  refine ⟨trivial, ?_⟩
  refine (callsIn_wide.2 (isDigits_any t _ (by omega))).mono ?_
  rintro e w1 ⟨rfl, rfl⟩
  rw [hd]
  have hposi : (0 : Int) < (t.size : Int) := by omega
  have hbx := Box2.new w (.bool false) (.slice none 0 0)
  obtain ⟨W0, hW0⟩ : ∃ W0, W0 = w.alloc (.cells #[.bool false, .slice none 0 0] 24) := ⟨_, rfl⟩
  have hb0 : Below w.heap.size w W0 := by rw [hW0]; exact ba (b0 _) _
  rw [← hW0] at hbx ⊢
  clear hW0
  have x0 := hbx.cell0
  have x1 := hbx.cell1
  have f0 := hbx.free 0
  have f1 := hbx.free 1
  obtain ⟨k0, k1, k2⟩ := hbx.back (.bool false) (.slice none 0 0)
  gi_wp2
  refine ⟨.tuple #[.agg #[.bool false, .slice none 0 0], .int .i64 3], by simp [results, Tryz.results74, go_sem, k0, k2], rfl, b2 hb0 (Nat.le_refl _) _ _⟩
set_option maxRecDepth 100000 in
set_option maxHeartbeats 2000000 in
theorem Parse_limit (w : World) (s t : ByteArray) (ng : Bool) (ht : pDig s = t) (hng : pNeg s = ng) (hd : digs t = true) (hpos : 0 < t.size) (h48i : ((t[0].toNat : Int) == 48) = false) (hbig : 20000 < t.size) (hlen : t.size ≤ 1000000) :
    Calls Tryz.prog 74 #[.string s] w (PErr w 2) := by
  refine (callsIn_wide (n := 5)).1 ?_
  refine callsIn_of_wp_marks Tryz.func74 rfl trivial ?_ rfl
  simp only [Tryz.ntmps74, List.size_toArray, List.length_cons, List.length_nil, Nat.reduceAdd, Nat.reduceSub, Array.replicate_succ, Array.replicate_zero, List.push_toArray, List.append_toArray, List.nil_append, List.cons_append]
  gi_wp2
  refine ⟨trivial, ?_⟩
  refine (callsIn_wide.2 (cut_any s _)).mono ?_
  rintro e w1 ⟨rfl, rfl⟩
  rw [ht, hng]
  gi_wp2
  refine ⟨trivial, ?_⟩
  refine (callsIn_wide.2 (isDigits_any t _ (by omega))).mono ?_
  rintro e w1 ⟨rfl, rfl⟩
  rw [hd]
  have hposi : (0 : Int) < (t.size : Int) := by omega
  have hbi : (20000 : Int) < (t.size : Int) := by omega
  have hbx := Box2.new w (.bool false) (.slice none 0 0)
  obtain ⟨W0, hW0⟩ : ∃ W0, W0 = w.alloc (.cells #[.bool false, .slice none 0 0] 24) := ⟨_, rfl⟩
  have hb0 : Below w.heap.size w W0 := by rw [hW0]; exact ba (b0 _) _
  rw [← hW0] at hbx ⊢
  clear hW0
  have x0 := hbx.cell0
  have x1 := hbx.cell1
  have f0 := hbx.free 0
  have f1 := hbx.free 1
  obtain ⟨k0, k1, k2⟩ := hbx.back (.bool false) (.slice none 0 0)
  gi_wp2
  refine ⟨.tuple #[.agg #[.bool false, .slice none 0 0], .int .i64 2], by simp [results, Tryz.results74, go_sem, k0, k2], rfl, b2 hb0 (Nat.le_refl _) _ _⟩
open Go.RowKit
def BadTxt (s : ByteArray) : Prop := digs (pDig s) = false ∨ (digs (pDig s) = true ∧ byt (pDig s) 0 = 48 ∧ s ≠ ⟨#[48]⟩)
theorem txt_cases (s : ByteArray) : (∃ z, IsTxt s z) ∨ BadTxt s := by
  by_cases hd : digs (pDig s) = true
  · by_cases hs0 : s = ⟨#[48]⟩
    · exact .inl ⟨0, .inl ⟨rfl, hs0⟩⟩
    · by_cases h48 : byt (pDig s) 0 = 48
      · exact .inr (.inr ⟨hd, h48, hs0⟩)
      · left
        obtain ⟨hne, hdg⟩ := digs_is hd
        obtain ⟨ds, hds⟩ : ∃ ds, ds = (pDig s).data.toList := ⟨_, rfl⟩
        rw [← hds] at hne hdg
        have hp : Plain ds := ⟨hdg, fun e => h48 (by
          have e1 : pDig s = ⟨ds.toArray⟩ := by rw [hds]
          rw [e1]
          cases ds with
          | nil => exact absurd rfl hne
          | cons c r =>
            simp only [List.head?_cons, Option.some.injEq] at e
            subst e
            rfl)⟩
        have hpos : 0 < dnum ds := Nat.lt_of_lt_of_le (Nat.pow_pos (by decide)) (plain_lower hp hne)
        by_cases hn : pNeg s = true
        · refine ⟨-(dnum ds : Int), .inr ⟨by omega, ds, ?_, hne, hp, by omega⟩⟩
          rw [if_pos (by omega)]
          have e1 : s.data.toList = 45 :: ds := by
            have h1 : Lib.hasPrefix s.data.toList [45] = true := hn
            rw [hds]
            unfold pDig Lib.trimPrefix
            rw [if_pos h1]
            cases hl : s.data.toList with
            | nil => rw [hl] at h1; cases h1
            | cons c r =>
              rw [hl] at h1
              simp [Lib.hasPrefix, List.isPrefixOf] at h1
              simp [h1]
          show s = ⟨(45 :: ds).toArray⟩
          rw [← e1]
        · have hn' : pNeg s = false := by simpa using hn
          refine ⟨(dnum ds : Int), .inr ⟨by omega, ds, ?_, hne, hp, by omega⟩⟩
          rw [if_neg (by omega)]
          have e1 : pDig s = s := by
            have h1 : Lib.hasPrefix s.data.toList [45] = false := hn'
            unfold pDig Lib.trimPrefix
            rw [h1]; exact bytes_eta s
          rw [hds, e1]
          exact (bytes_eta s).symm
  · exact .inr (.inl (by simpa using hd))
end Go.Proofs.YtgljdfblgpdaaaaGreatDoor
