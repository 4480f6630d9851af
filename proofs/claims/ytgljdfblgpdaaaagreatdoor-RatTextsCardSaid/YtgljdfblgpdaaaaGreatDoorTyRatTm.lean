import Derived.Test.YtgljdfblgpdaaaaGreatDoorTyRatN
import Derived.Test.YtgljdfblgpdaaaaGreatDoorTyRatTd
set_option linter.unusedSimpArgs false
set_option linter.unusedVariables false
set_option maxRecDepth 100000
set_option maxHeartbeats 4000000
namespace Go.Proofs.YtgljdfblgpdaaaaGreatDoor
open Go Go.RowKit Go.Shelf
def PQ (s : ByteArray) (x y er : Int) : Prop :=
  (Lib.indexByte s.data.toList 47 = -1 ∧ ((txe s = 0 ∧ x = txv s ∧ y = 1 ∧ er = 0) ∨ (txe s ≠ 0 ∧ x = 0 ∧ y = 0 ∧ er = txe s))) ∨
  (∃ (k : Nat) (a b : ByteArray), Lib.indexByte s.data.toList 47 = (k : Int) ∧ a = s.extract 0 k ∧ b = s.extract (k + 1) s.size ∧ ((rc2 a b = 0 ∧ x = txv a ∧ y = txv b ∧ er = 0) ∨ (rc2 a b ≠ 0 ∧ x = 0 ∧ y = 0 ∧ er = rc2 a b)))
theorem pq_of (s : ByteArray) : ∃ x y er, PQ s x y er ∧ ∀ w e w', RDY w s e w' → RQE w x y er e w' := by
  rcases (show (Lib.indexByte s.data.toList 47) < 0 ∨ 0 ≤ (Lib.indexByte s.data.toList 47) by omega) with h | h
  · have hk : Lib.indexByte s.data.toList 47 = -1 := by have := Lib.indexByte_ge s.data.toList 47; omega
    by_cases h0 : txe s = 0
    · refine ⟨txv s, 1, 0, .inl ⟨hk, .inl ⟨h0, rfl, rfl, rfl⟩⟩, ?_⟩
      rintro w e w' (⟨_, h1 | h1⟩ | ⟨k, _, _, h1, _⟩)
      · exact h1.2
      · exact absurd h0 h1.1
      · omega
    · refine ⟨0, 0, txe s, .inl ⟨hk, .inr ⟨h0, rfl, rfl, rfl⟩⟩, ?_⟩
      rintro w e w' (⟨_, h1 | h1⟩ | ⟨k, _, _, h1, _⟩)
      · exact absurd h1.1 h0
      · exact h1.2
      · omega
  · obtain ⟨k, hk⟩ : ∃ k : Nat, Lib.indexByte s.data.toList 47 = k := ⟨(Lib.indexByte s.data.toList 47).toNat, by omega⟩
    by_cases h0 : rc2 (s.extract 0 k) (s.extract (k + 1) s.size) = 0
    · refine ⟨_, _, 0, .inr ⟨k, _, _, hk, rfl, rfl, .inl ⟨h0, rfl, rfl, rfl⟩⟩, ?_⟩
      rintro w e w' (⟨h1, _⟩ | ⟨k', _, _, h1, rfl, rfl, h2⟩)
      · omega
      · obtain rfl : k' = k := by omega
        rcases h2 with h2 | h2
        · exact h2.2
        · exact absurd h0 h2.1
    · refine ⟨0, 0, _, .inr ⟨k, _, _, hk, rfl, rfl, .inr ⟨h0, rfl, rfl, rfl⟩⟩, ?_⟩
      rintro w e w' (⟨h1, _⟩ | ⟨k', _, _, h1, rfl, rfl, h2⟩)
      · omega
      · obtain rfl : k' = k := by omega
        rcases h2 with h2 | h2
        · exact absurd h2.1 h0
        · exact h2.2
theorem QTxt.uniq {s t : ByteArray} {x y : Int} (h : QTxt s x y) (k : QTxt t x y) : s = t := by
  rcases h with ⟨h0, h⟩ | ⟨h0, s1, s2, h1, h2, rfl⟩
  · rcases k with ⟨_, k⟩ | ⟨k0, _⟩
    · exact h.uniq k
    · exact absurd h0 k0
  · rcases k with ⟨k0, _⟩ | ⟨_, t1, t2, k1, k2, rfl⟩
    · exact absurd k0 h0
    · rw [h1.uniq k1, h2.uniq k2]
theorem ba_ext {s t : ByteArray} (h : s.data.toList = t.data.toList) : s = t := by
  rw [← bytes_eta s, h, bytes_eta]
theorem ext0_list (t : ByteArray) (k : Nat) : (t.extract 0 k).data.toList = t.data.toList.take k := by
  rw [ByteArray.data_extract, Array.toList_extract, List.extract_eq_take_drop, List.drop_zero, Nat.sub_zero]
theorem app_list3 (a b : ByteArray) : (a ++ ⟨#[47]⟩ ++ b).data.toList = a.data.toList ++ 47 :: b.data.toList := by
  rw [ByteArray.data_append, ByteArray.data_append, Array.toList_append, Array.toList_append]
  simp
theorem cut_back {s : ByteArray} {k : Nat} (hk : Lib.indexByte s.data.toList 47 = (k : Int)) : s = s.extract 0 k ++ ⟨#[47]⟩ ++ s.extract (k + 1) s.size := by
  have h1 := (Lib.indexByte_some hk).1
  have h2 := (List.getElem?_eq_some_iff.1 h1).1
  refine ba_ext ?_
  rw [app_list3, ext0_list, ext_list]
  have h3 := (List.getElem?_eq_some_iff.1 h1).2
  rw [← h3, ← List.drop_eq_getElem_cons h2, List.take_append_drop]
theorem IsTxt.no47 {s : ByteArray} {z : Int} (h : IsTxt s z) : ∀ c ∈ s.data.toList, c ≠ 47 := by
  rcases h with ⟨_, rfl⟩ | ⟨_, ds, rfl, _, hp, _⟩
  · intro c hc
    simp at hc
    subst hc
    decide
  · intro c hc e
    subst e
    have hc' : (47 : UInt8) ∈ (if z < 0 then [45] else []) ++ ds := by simpa using hc
    rcases List.mem_append.1 hc' with h1 | h1
    · split at h1
      · simp at h1
      · simp at h1
    · have := (hp.1 _ h1).1
      exact absurd this (by decide)
theorem IsTxt.idx {s : ByteArray} {z : Int} (h : IsTxt s z) : Lib.indexByte s.data.toList 47 = -1 :=
  idx_none fun j hj e => h.no47 _ (List.mem_of_getElem? e) rfl
theorem txt_cut {a b : ByteArray} {x : Int} (h : IsTxt a x) : Lib.indexByte (a ++ ⟨#[47]⟩ ++ b).data.toList 47 = (a.size : Int) ∧ (a ++ ⟨#[47]⟩ ++ b).extract 0 a.size = a ∧ (a ++ ⟨#[47]⟩ ++ b).extract (a.size + 1) (a ++ ⟨#[47]⟩ ++ b).size = b := by
  have hl : a.data.toList.length = a.size := by simp
  refine ⟨?_, ba_ext ?_, ba_ext ?_⟩
  · rw [app_list3]
    rcases (show (Lib.indexByte (a.data.toList ++ 47 :: b.data.toList) 47) < 0 ∨ 0 ≤ (Lib.indexByte (a.data.toList ++ 47 :: b.data.toList) 47) by omega) with h2 | h2
    · have h3 := Lib.indexByte_ge (a.data.toList ++ 47 :: b.data.toList) 47
      exact absurd (by rw [List.getElem?_append_right (by omega), hl, Nat.sub_self]; rfl) (Lib.indexByte_none (l := a.data.toList ++ 47 :: b.data.toList) (c := 47) (by omega) a.size)
    · obtain ⟨o, ho⟩ : ∃ o : Nat, Lib.indexByte (a.data.toList ++ 47 :: b.data.toList) 47 = o := ⟨(Lib.indexByte (a.data.toList ++ 47 :: b.data.toList) 47).toNat, by omega⟩
      obtain ⟨h3, h4⟩ := Lib.indexByte_some ho
      rcases Nat.lt_trichotomy o a.size with h5 | h5 | h5
      · rw [List.getElem?_append_left (by omega)] at h3
        exact absurd rfl (h.no47 _ (List.mem_of_getElem? h3))
      · rw [ho, h5]
      · exact absurd (by rw [List.getElem?_append_right (by omega), hl, Nat.sub_self]; rfl) (h4 a.size h5)
  · rw [ext0_list, app_list3, ← hl, List.take_left]
  · rw [ext_list, app_list3, ← hl, List.drop_append, List.drop_of_length_le (by omega)]
    simp
theorem PQ.txt {s : ByteArray} {x y : Int} (h : PQ s x y 0) : QTxt s x y := by
  rcases h with ⟨_, h | h⟩ | ⟨k, a, b, hk, ha, hb, h | h⟩
  · obtain ⟨h0, rfl, rfl, _⟩ := h
    obtain ⟨z, hz, hv⟩ := ec_txt (s := s) (by omega)
    rw [hv h0]
    exact .inl ⟨rfl, hz⟩
  · exact absurd h.2.2.2.symm h.1
  · obtain ⟨h0, rfl, rfl, _⟩ := h
    rw [rc2_nb] at h0
    have h1 : txe a ≠ 3 := fun e => by rw [if_pos e] at h0; exact absurd h0 (by decide)
    rw [if_neg h1] at h0
    have h2 : ¬ nbad b = true := fun e => by rw [if_pos e] at h0; exact absurd h0 (by decide)
    rw [if_neg h2] at h0
    have h3 : txe a = 0 ∧ txe b = 0 := by
      rcases Classical.em (txe a = 0 ∧ txe b = 0) with e | e
      · exact e
      · rw [if_neg e] at h0; exact absurd h0 (by decide)
    obtain ⟨z, hz, hv⟩ := ec_txt (s := a) h1
    obtain ⟨u, hu, hw⟩ := ec_txt (s := b) (by omega)
    rw [hv h3.1, hw h3.2]
    refine .inr ⟨?_, a, b, hz, hu, ?_⟩
    · have hb0 : dbad b = false := by
        rcases Bool.eq_false_or_eq_true (dbad b) with e | e
        · exact absurd (by unfold nbad; rw [e, Bool.or_true]) h2
        · exact e
      have := (hp_val hu).1 hb0
      omega
    · rw [ha, hb]; exact cut_back hk
  · exact absurd h.2.2.2.symm h.1
theorem QTxt.pq {s : ByteArray} {x y : Int} (h : QTxt s x y) (hc : Can x y) (hx : x.natAbs < 2 ^ 10000) (hy : y.natAbs < 2 ^ 10000) {x' y' er : Int} (hp : PQ s x' y' er) : x' = x ∧ y' = y ∧ er = 0 := by
  have hsz : ∀ {t : ByteArray} {z : Int}, IsTxt t z → z.natAbs < 2 ^ 10000 → t.size ≤ 20000 := fun h1 h2 => by
    have := h1.any h2
    omega
  rcases h with ⟨h0, h⟩ | ⟨h0, a, b, h1, h2, rfl⟩
  · obtain ⟨e1, e2⟩ := txt_ec h (hsz h hx)
    have hi := h.idx
    rcases hp with ⟨_, hp | hp⟩ | ⟨k, _, _, hk, _⟩
    · exact ⟨by rw [hp.2.1, e2], by rw [hp.2.2.1, h0], hp.2.2.2⟩
    · exact absurd e1 hp.1
    · omega
  · obtain ⟨c1, c2, c3⟩ := txt_cut (b := b) h1
    obtain ⟨e1, e2⟩ := txt_ec h1 (hsz h1 hx)
    obtain ⟨f1, f2⟩ := txt_ec h2 (hsz h2 hy)
    have hpos : 0 < y := hc.1
    have hrc : rc2 a b = 0 := by
      have hh : dbad b = false := (hp_val h2).2 (by omega)
      have hn : nbad b = false := by unfold nbad; rw [hh, f1]; rfl
      rw [rc2_nb, if_neg (by rw [e1]; decide), if_neg (by rw [hn]; decide), if_pos ⟨e1, f1⟩, e2, f2]
      exact if_pos hc.2
    rcases hp with ⟨hk, _⟩ | ⟨k, a', b', hk, ha, hb, hp⟩
    · omega
    · obtain rfl : k = a.size := by omega
      rw [c2] at ha
      rw [c3] at hb
      subst ha hb
      rcases hp with hp | hp
      · exact ⟨by rw [hp.2.1, e2], by rw [hp.2.2.1, f2], hp.2.2.2⟩
      · exact absurd hrc hp.1
end Go.Proofs.YtgljdfblgpdaaaaGreatDoor
