import Derived.Lib.IndexLaws
import Derived.Test.YtgljdfblgpdaaaaGreatDoorPbRefI
import Derived.Test.YtgljdfblgpdaaaaGreatDoorTyNumRParse
import Derived.Test.YtgljdfblgpdaaaaGreatDoorTyNumRPrint
import Derived.Test.YtgljdfblgpdaaaaGreatDoorTyRefR
set_option linter.unusedSimpArgs false
set_option linter.unusedVariables false
set_option maxRecDepth 100000
set_option maxHeartbeats 4000000
namespace Go.Proofs.YtgljdfblgpdaaaaGreatDoor
open Go.RowKit
def PX (z er : Int) (W : World) (e : Ending) (w' : World) : Prop :=
  ∃ n A c l, e = .returned (.tuple #[.agg #[.bool n, .slice A l.length c], .int .i64 er]) ∧ WS w' A l ∧ isB n l = true ∧ zI n l = z ∧ l.length ≤ 1000000 ∧ Below W.heap.size W w'
theorem PRes.px {W : World} {z : Int} {e : Ending} {w' : World} {N : Nat} (h : PRes W z e w') (hN : N ≤ 900000) (hz : z.natAbs < 10 ^ N) : PX z 0 W e w' := by
  obtain ⟨n, A, c, l, he, hw, hB, hv, hb⟩ := h
  refine ⟨n, A, c, l, he, hw, hB, hv, ?_, hb⟩
  have h1 : val l = z.natAbs := by rw [← hv]; unfold zI; split <;> simp
  have := len_of_val (i := N) (isB_top hB) (by rw [h1]; exact hz)
  omega
theorem PErr.px {W : World} {er : Int} {e : Ending} {w' : World} (h : PErr W er e w') : PX 0 er W e w' :=
  ⟨false, none, 0, [], h.1, WS.nil_ _ _, rfl, rfl, by decide, h.2⟩
def pv (ng : Bool) (t : ByteArray) : Int := if digs t = true ∧ t.size ≤ 20000 then (if ng = true then -(dnum t.data.toList : Int) else (dnum t.data.toList : Int)) else 0
def pe (t : ByteArray) : Int := if digs t = true then (if t.size ≤ 20000 then 0 else 2) else 3
theorem dnum_natAbs {t : ByteArray} {ng : Bool} (hd : digs t = true) : (if ng = true then -(dnum t.data.toList : Int) else (dnum t.data.toList : Int)).natAbs < 10 ^ t.size := by
  have h1 := dnum_lt t.data.toList (digs_is hd).2
  have e : (if ng = true then -(dnum t.data.toList : Int) else (dnum t.data.toList : Int)).natAbs = dnum t.data.toList := by split <;> simp
  rw [e]
  exact h1
theorem RPo.px {W : World} {ng : Bool} {t : ByteArray} {e : Ending} {w' : World} (h : RPo W ng t e w') : PX (pv ng t) (pe t) W e w' := by
  unfold pv pe
  rcases h with ⟨h1, h2, h3⟩ | ⟨h1, h2, h3⟩ | ⟨h1, h3⟩
  · rw [if_pos ⟨h1, h2⟩, if_pos h1, if_pos h2]
    exact h3.weak.px (by omega) (dnum_natAbs h1)
  · rw [if_neg (by omega), if_pos h1, if_neg (by omega)]
    exact h3.px
  · rw [if_neg (by rw [h1]; simp), if_neg (by rw [h1]; decide)]
    exact h3.px
theorem cut_yes {s : ByteArray} (h0 : 0 < s.size) (h : byt s 0 = 45) : pNeg s = true ∧ pDig s = s.extract 1 s.size := by
  rw [byt_at h0] at h
  obtain ⟨ds, hds⟩ : ∃ ds, s.data.toList = 45 :: ds := by
    have h3 : s.data.toList[0]? = some s[0] := List.getElem?_eq_getElem (by simpa using h0)
    cases hd : s.data.toList with
    | nil => rw [hd] at h3; cases h3
    | cons c r =>
      rw [hd] at h3
      simp only [List.getElem?_cons_zero, Option.some.injEq] at h3
      refine ⟨r, ?_⟩
      rw [h3, show s[0] = 45 from UInt8.toNat_inj.1 h]
  have e : s = ⟨(45 :: ds).toArray⟩ := by rw [← hds, bytes_eta]
  obtain ⟨g1, g2⟩ := pre_yes ds
  rw [← e] at g1 g2
  refine ⟨g1, g2.trans ?_⟩
  have h2 := ext_list s 1
  rw [hds] at h2
  rw [show ds = (s.extract 1 s.size).data.toList from h2.symm, bytes_eta]
theorem cut_no {s : ByteArray} (h : ¬ (0 < s.size ∧ byt s 0 = 45)) : pNeg s = false ∧ pDig s = s := by
  refine pre_no fun e => h ?_
  cases hd : s.data.toList with
  | nil => rw [hd] at e; cases e
  | cons c r =>
    have h1 : s.data.toList.length = s.size := by simp
    rw [hd] at h1 e
    simp at h1 e
    have h0 : 0 < s.size := by omega
    refine ⟨h0, ?_⟩
    have h3 : s.data.toList[0]? = some s[0] := List.getElem?_eq_getElem (by simpa using h0)
    rw [hd] at h3
    simp only [List.getElem?_cons_zero, Option.some.injEq] at h3
    rw [byt_at h0, ← h3, e]
    rfl
theorem digs_nil {t : ByteArray} (h : t.size = 0) : digs t = false := by unfold digs; simp [h]
theorem toList_nil {t : ByteArray} (h : t.size = 0) : t.toList = [] := by
  rw [ByteArray.toList_eq]
  exact List.eq_nil_of_length_eq_zero (by simpa using h)
theorem is_zero {s : ByteArray} (h1 : s.size = 1) (h : byt s 0 = 48) : s = ⟨#[48]⟩ := by
  have h0 : 0 < s.size := by omega
  rw [byt_at h0] at h
  have h3 : s.data.toList[0]? = some s[0] := List.getElem?_eq_getElem (by simpa using h0)
  have h2 : s.data.toList.length = 1 := by simpa using h1
  rw [show s[0] = 48 from UInt8.toNat_inj.1 h] at h3
  rw [← bytes_eta s]
  cases hd : s.data.toList with
  | nil => rw [hd] at h3; cases h3
  | cons c r =>
    rw [hd] at h3 h2
    simp at h3 h2
    rw [h3, h2]
theorem RParse_all (w : World) (s : ByteArray) (hs : s.size ≤ 900000) :
    Calls Tryz.prog 122 #[.string s] w (fun e w' => if byt (pDig s) 0 = 48 ∧ s ≠ ⟨#[48]⟩ then PErr w 3 e w' else RPo w (pNeg s) (pDig s) e w') := by
  by_cases h45 : 0 < s.size ∧ byt s 0 = 45
  · obtain ⟨g1, g2⟩ := cut_yes h45.1 h45.2
    obtain ⟨t, ht⟩ : ∃ t, s.extract 1 s.size = t := ⟨_, rfl⟩
    rw [g1, g2, ht]
    have hne : s ≠ ⟨#[48]⟩ := fun e => by rw [e] at h45; exact absurd h45.2 (by decide)
    have h45' : s[0].toNat = 45 := by rw [← byt_at h45.1]; exact h45.2
    have htl : t.size ≤ 1000000 := by
      rw [← ht, ByteArray.size_extract]
      omega
    rcases Nat.eq_zero_or_pos t.size with h0 | h0
    · have hb : ¬ (byt t 0 = 48 ∧ s ≠ ⟨#[48]⟩) := fun h => by
        have h1 : byt t 0 = 0 := by unfold byt; rw [Array.getD_eq_getD_getElem?, Array.getElem?_eq_none (by simpa using Nat.le_of_eq h0)]; rfl
        omega
      refine (RParse_e3 w s t ht h45.1 (toList_nil h0) h45').mono fun e w' h => ?_
      rw [if_neg hb]
      exact .inr (.inr ⟨digs_nil h0, h⟩)
    · by_cases h48 : byt t 0 = 48
      · refine (RParse_e4 w s t ht h45.1 h0 h45' h48).mono fun e w' h => ?_
        rw [if_pos ⟨h48, hne⟩]
        exact h
      · refine (RParse_neg w s t ht h45.1 h0 htl h45' h48).mono fun e w' h => ?_
        rw [if_neg (fun h => h48 h.1)]
        exact h
  · obtain ⟨g1, g2⟩ := cut_no h45
    rw [g1, g2]
    rcases Nat.eq_zero_or_pos s.size with h0 | h0
    · have hb : ¬ (byt s 0 = 48 ∧ s ≠ ⟨#[48]⟩) := fun h => by
        have h1 : byt s 0 = 0 := by unfold byt; rw [Array.getD_eq_getD_getElem?, Array.getElem?_eq_none (by simpa using Nat.le_of_eq h0)]; rfl
        omega
      refine (RParse_e1 w s (toList_nil h0)).mono fun e w' h => ?_
      rw [if_neg hb]
      exact .inr (.inr ⟨digs_nil h0, h⟩)
    · by_cases h48 : byt s 0 = 48
      · by_cases h1 : s.size = 1
        · refine (RParse_zero w s h0 h1 h48).mono fun e w' h => ?_
          rw [if_neg (fun h => h.2 (is_zero h1 h48))]
          exact h
        · refine (RParse_e2 w s h0 (by omega) h48).mono fun e w' h => ?_
          rw [if_pos ⟨h48, fun e => h1 (by rw [e]; rfl)⟩]
          exact h
      · refine (RParse_pos w s h0 (by omega) (fun h => h45 ⟨h0, h⟩) h48).mono fun e w' h => ?_
        rw [if_neg (fun h => h48 h.1)]
        exact h
theorem Parse_all (w : World) (s : ByteArray) (hs : s.size ≤ 900000) (hT : Tens w) :
    Calls Tryz.prog 74 #[.string s] w (fun e w' => if byt (pDig s) 0 = 48 ∧ s ≠ ⟨#[48]⟩ then PErr w 3 e w' else RPo w (pNeg s) (pDig s) e w') := by
  have htl : (pDig s).size ≤ 1000000 := by
    by_cases h45 : 0 < s.size ∧ byt s 0 = 45
    · rw [(cut_yes h45.1 h45.2).2, ByteArray.size_extract]; omega
    · rw [(cut_no h45).2]; omega
  by_cases hz : byt (pDig s) 0 = 48 ∧ s ≠ ⟨#[48]⟩
  · simp only [if_pos hz]
    by_cases hd : digs (pDig s) = true
    · have hp : 0 < (pDig s).size := by
        rcases Nat.eq_zero_or_pos (pDig s).size with h | h
        · rw [digs_nil h] at hd; cases hd
        · exact h
      refine Parse_form2 w s _ _ rfl rfl hd hp (by rw [← byt_at hp, hz.1]; rfl) ?_ htl
      rw [ByteArray.toList_eq]
      simp only [Bool.not_eq_true', beq_eq_false_iff_ne, ne_eq]
      intro e
      refine hz.2 ?_
      rw [← bytes_eta s, e]
    · exact Parse_form1 w s _ _ rfl rfl (by simpa using hd) htl
  · simp only [if_neg hz]
    by_cases hd : digs (pDig s) = true
    · have hp : 0 < (pDig s).size := by
        rcases Nat.eq_zero_or_pos (pDig s).size with h | h
        · rw [digs_nil h] at hd; cases hd
        · exact h
      by_cases hl : (pDig s).size ≤ 20000
      · refine (Parse_okC w s _ _ rfl rfl hd (fun h => ?_) hl hT).mono fun e w' h => .inl ⟨hd, hl, h⟩
        rcases Classical.em (s = ⟨#[48]⟩) with h1 | h1
        · exact h1
        · exact absurd ⟨h, h1⟩ hz
      · refine (Parse_limit w s _ _ rfl rfl hd hp ?_ (by omega) htl).mono fun e w' h => .inr (.inl ⟨hd, by omega, h⟩)
        refine beq_eq_false_iff_ne.2 fun h => ?_
        rw [← byt_at hp] at h
        have h1 : s = ⟨#[48]⟩ := by
          rcases Classical.em (s = ⟨#[48]⟩) with h1 | h1
          · exact h1
          · exact absurd ⟨by omega, h1⟩ hz
        rw [h1] at hl
        exact hl (by decide)
    · exact (Parse_form1 w s _ _ rfl rfl (by simpa using hd) htl).mono fun e w' h => .inr (.inr ⟨by simpa using hd, h⟩)
open Go.RowKit Go.Shelf
def txe (s : ByteArray) : Int := if byt (pDig s) 0 = 48 ∧ s ≠ ⟨#[48]⟩ then 3 else pe (pDig s)
def txv (s : ByteArray) : Int := if byt (pDig s) 0 = 48 ∧ s ≠ ⟨#[48]⟩ then 0 else pv (pNeg s) (pDig s)
theorem ec_cases (s : ByteArray) : txe s = 0 ∨ txe s = 2 ∨ txe s = 3 := by
  unfold txe pe
  split
  · exact .inr (.inr rfl)
  · split
    · split
      · exact .inl rfl
      · exact .inr (.inl rfl)
    · exact .inr (.inr rfl)
theorem tv_zero {s : ByteArray} (h : txe s ≠ 0) : txv s = 0 := by
  unfold txe pe at h
  unfold txv pv
  split
  · rfl
  · rename_i h1
    rw [if_neg h1] at h
    refine if_neg fun h2 => h ?_
    rw [if_pos h2.1, if_pos h2.2]
theorem ten_pw (n : Nat) : 10 ^ (3 * n) ≤ 2 ^ (10 * n) := by
  rw [Nat.pow_mul, Nat.pow_mul]
  exact Nat.pow_le_pow_left (by decide) n
theorem ten_bb {k : Nat} (h : k ≤ 20000) : 10 ^ k ≤ BB 2100 := by
  obtain ⟨n, hn⟩ : ∃ n, n = 6667 := ⟨_, rfl⟩
  obtain ⟨m, hm⟩ : ∃ m, m = 2100 := ⟨_, rfl⟩
  rw [← hm]
  have h1 : 10 ^ k ≤ 10 ^ (3 * n) := Nat.pow_le_pow_right (by decide) (by omega)
  have h2 : 2 ^ (10 * n) ≤ 2 ^ (32 * m) := Nat.pow_le_pow_right (by decide) (by omega)
  rw [bb_pow]
  exact Nat.le_trans h1 (Nat.le_trans (ten_pw n) h2)
def PIR (w : World) (z er : Int) (e : Ending) (w' : World) : Prop :=
  ∃ n A c l, e = .returned (.tuple #[.agg #[.bool n, .slice A l.length c], .int .i64 er]) ∧ IV w' n A c l z ∧ Below w.heap.size w w'
theorem PErr.pir {w : World} {er : Int} {e : Ending} {w' : World} (h : PErr w er e w') : PIR w 0 er e w' :=
  ⟨false, none, 0, [], h.1, ⟨Nat.le_refl _, WS.nil_ _ _, rfl, rfl, by decide⟩, h.2⟩
theorem pir_of {w : World} {s : ByteArray} {e : Ending} {w' : World} (h : if byt (pDig s) 0 = 48 ∧ s ≠ ⟨#[48]⟩ then PErr w 3 e w' else RPo w (pNeg s) (pDig s) e w') : PIR w (txv s) (txe s) e w' := by
  unfold txv txe
  by_cases h0 : byt (pDig s) 0 = 48 ∧ s ≠ ⟨#[48]⟩
  · rw [if_pos h0] at h ⊢
    rw [if_pos h0]
    exact h.pir
  · rw [if_neg h0] at h ⊢
    rw [if_neg h0]
    unfold pv pe
    rcases h with ⟨h1, h2, h3⟩ | ⟨h1, h2, h3⟩ | ⟨h1, h3⟩
    · rw [if_pos ⟨h1, h2⟩, if_pos h1, if_pos h2]
      obtain ⟨n, A, c, l, he, hc, hw, hB, hz, hb⟩ := h3
      exact ⟨n, A, c, l, he, .of hc hw hB hz (Nat.lt_of_lt_of_le (dnum_natAbs h1) (ten_bb h2)), hb⟩
    · rw [if_neg (by omega), if_pos h1, if_neg (by omega)]
      exact h3.pir
    · rw [if_neg (by rw [h1]; simp), if_neg (by rw [h1]; decide)]
      exact h3.pir
theorem Parse_pir {w : World} {s : ByteArray} (hs : s.size ≤ 60000) (hT : Tens w) : Calls Tryz.prog 74 #[.string s] w (PIR w (txv s) (txe s)) :=
  (Parse_all w s (by omega) hT).mono fun _ _ h => pir_of h
theorem RParse_pir {w : World} {s : ByteArray} (hs : s.size ≤ 60000) : Calls Tryz.prog 122 #[.string s] w (PIR w (txv s) (txe s)) :=
  (RParse_all w s (by omega)).mono fun _ _ h => pir_of h
theorem IsTxt.parts {s : ByteArray} {z : Int} (h : IsTxt s z) : digs (pDig s) = true ∧ ¬ (byt (pDig s) 0 = 48 ∧ s ≠ ⟨#[48]⟩) ∧ (if pNeg s = true then -(dnum (pDig s).data.toList : Int) else (dnum (pDig s).data.toList : Int)) = z := by
  rcases h with ⟨rfl, rfl⟩ | ⟨h0, ds, rfl, hne, hp, hd⟩
  · exact ⟨by decide, fun h => h.2 rfl, by decide⟩
  · by_cases hz : z < 0
    · rw [if_pos hz]
      obtain ⟨g1, g2⟩ := pre_yes ds
      rw [show ([45] ++ ds : List UInt8) = 45 :: ds from rfl, g1, g2, if_pos rfl]
      refine ⟨digs_of hne hp.1, fun h => plain_byt hp hne h.1, ?_⟩
      show -(dnum ds : Int) = z
      omega
    · rw [if_neg hz]
      obtain ⟨g1, g2⟩ := pre_no (s := ⟨([] ++ ds).toArray⟩) (by simpa using plain_head hp)
      rw [g1, g2, if_neg (by decide)]
      refine ⟨digs_of hne hp.1, fun h => plain_byt hp hne h.1, ?_⟩
      show (dnum ds : Int) = z
      omega
theorem dig_size (s : ByteArray) : (pDig s).size ≤ s.size := by
  unfold pDig Lib.trimPrefix
  have e : s.data.toList.length = s.size := rfl
  split
  · show (s.data.toList.drop _).length ≤ _
    rw [List.length_drop]; omega
  · show s.data.toList.length ≤ _
    omega
theorem txt_ec {s : ByteArray} {z : Int} (h : IsTxt s z) (hs : s.size ≤ 20000) : txe s = 0 ∧ txv s = z := by
  obtain ⟨h1, h2, h3⟩ := h.parts
  have h4 := dig_size s
  unfold txe txv pe pv
  rw [if_neg h2, if_neg h2, if_pos h1, if_pos (by omega), if_pos ⟨h1, by omega⟩]
  exact ⟨rfl, h3⟩
theorem ec_txt {s : ByteArray} (h : txe s ≠ 3) : ∃ z, IsTxt s z ∧ (txe s = 0 → txv s = z) := by
  rcases txt_cases s with ⟨z, hz⟩ | hb
  · refine ⟨z, hz, fun h0 => ?_⟩
    obtain ⟨h1, h2, h3⟩ := hz.parts
    unfold txe at h0
    unfold txv pv
    rw [if_neg h2] at h0 ⊢
    unfold pe at h0
    rw [if_pos h1] at h0
    have h5 : (pDig s).size ≤ 20000 := by
      rcases Nat.lt_or_ge 20000 (pDig s).size with h | h
      · rw [if_neg (by omega)] at h0; exact absurd h0 (by decide)
      · exact h
    rw [if_pos ⟨h1, h5⟩]
    exact h3
  · exfalso
    refine h ?_
    unfold txe pe
    rcases hb with hb | ⟨h1, h2, h3⟩
    · by_cases h0 : byt (pDig s) 0 = 48 ∧ s ≠ ⟨#[48]⟩
      · exact if_pos h0
      · rw [if_neg h0, if_neg (by rw [hb]; decide)]
    · exact if_pos ⟨h2, h3⟩
def dbad (b : ByteArray) : Bool := b.toList == [48] || b.toList == [49] || Lib.hasPrefix b.data.toList [45]
def rc2 (a b : ByteArray) : Int := if txe a = 3 ∨ txe b = 3 then 3 else if dbad b = true then 3 else if txe a = 0 ∧ txe b = 0 then (if Nat.gcd (txv a).natAbs (txv b).natAbs = 1 then 0 else 3) else 2
theorem rqe_none {w w' : World} (er : Int) (hb : Below w.heap.size w w') : RQE w 0 0 er (.returned (.tuple #[.agg #[.bool false, .slice none 0 0, .bool false, .slice none 0 0], .int .i64 er])) w' :=
  ⟨false, none, 0, [], false, none, 0, [], rfl, ⟨Nat.le_refl _, WS.nil_ _ _, rfl, rfl, by decide⟩, ⟨Nat.le_refl _, WS.nil_ _ _, rfl, rfl, by decide⟩, hb⟩
theorem hp_val {b : ByteArray} {z : Int} (h : IsTxt b z) : dbad b = false ↔ 2 ≤ z := by
  unfold dbad
  rw [ByteArray.toList_eq]
  rcases h with ⟨rfl, rfl⟩ | ⟨h0, ds, rfl, hne, hpl, hd⟩
  · simp
  · by_cases hz : z < 0
    · rw [if_pos hz]
      have : Lib.hasPrefix (⟨([45] ++ ds).toArray⟩ : ByteArray).data.toList [45] = true := (pre_yes ds).1
      rw [this, Bool.or_true]
      simp
      omega
    · rw [if_neg hz]
      have h7 : pNeg (⟨([] ++ ds).toArray⟩ : ByteArray) = false := (pre_no (by simpa using plain_head hpl)).1
      have : Lib.hasPrefix (⟨([] ++ ds).toArray⟩ : ByteArray).data.toList [45] = false := h7
      rw [this, Bool.or_false]
      have e : (⟨([] ++ ds).toArray⟩ : ByteArray).data.toList = ds := by simp
      rw [e]
      have e48 : ds ≠ [48] := fun e => by rw [e] at hpl; exact hpl.2 rfl
      rw [beq_eq_false_iff_ne.2 e48, Bool.false_or, beq_eq_false_iff_ne]
      constructor
      · intro h1
        have h2 : z ≠ 1 := fun h3 => h1 (plain_inj hpl ⟨by intro c hc; simp at hc; subst hc; exact ⟨by decide, by decide⟩, by decide⟩ (by rw [hd, h3]; rfl))
        omega
      · intro h1 h2
        rw [h2] at hd
        have : dnum [49] = 1 := rfl
        omega
open Go.RowKit Go.Shelf
theorem iv_nil (W : World) : IV W false none 0 [] 0 := ⟨Nat.le_refl _, WS.nil_ _ _, rfl, rfl, by decide⟩
def nbad (b : ByteArray) : Bool := decide (txe b = 3) || dbad b
theorem pre_byt {b : ByteArray} (h0 : 0 < b.size) : Lib.hasPrefix b.data.toList [45] = decide (byt b 0 = 45) := by
  by_cases h : byt b 0 = 45
  · rw [decide_eq_true h]; exact (cut_yes h0 h).1
  · rw [decide_eq_false h]; exact (cut_no (fun h2 => h h2.2)).1
theorem ec_size {b : ByteArray} (h : txe b ≠ 3) : 0 < b.size := by
  obtain ⟨z, hz, _⟩ := ec_txt h
  rcases hz with ⟨_, rfl⟩ | ⟨_, ds, rfl, hne, _, _⟩
  · decide
  · have h1 := List.length_pos_iff.2 hne
    show 0 < ((if z < 0 then [45] else []) ++ ds).toArray.size
    simp
    omega
theorem nb_cases (b : ByteArray) :
    (txe b = 3 ∧ nbad b = true) ∨
    (txe b = 0 ∧ 0 < b.size ∧ byt b 0 = 45 ∧ nbad b = true) ∨
    (txe b = 0 ∧ 0 < b.size ∧ byt b 0 ≠ 45 ∧ txv b = 1 ∧ nbad b = true) ∨
    (txe b = 0 ∧ 0 < b.size ∧ byt b 0 ≠ 45 ∧ txv b ≠ 1 ∧ cmpI (txv b) 0 = 0 ∧ nbad b = true) ∨
    (txe b = 0 ∧ 0 < b.size ∧ byt b 0 ≠ 45 ∧ txv b ≠ 1 ∧ cmpI (txv b) 0 = 1 ∧ nbad b = false) ∨
    (txe b = 2 ∧ 0 < b.size ∧ byt b 0 = 45 ∧ nbad b = true) ∨
    (txe b = 2 ∧ 0 < b.size ∧ byt b 0 ≠ 45 ∧ txv b ≠ 1 ∧ nbad b = false) := by
  have e := ec_cases b
  by_cases h3 : txe b = 3
  · exact .inl ⟨h3, by unfold nbad; rw [decide_eq_true h3]; rfl⟩
  have h0 := ec_size h3
  have hn : nbad b = dbad b := by unfold nbad; rw [decide_eq_false h3]; rfl
  obtain ⟨z, hz, hv⟩ := ec_txt h3
  have hh := hp_val hz
  by_cases h45 : byt b 0 = 45
  · have ht : nbad b = true := by
      rw [hn]; unfold dbad
      rw [pre_byt h0, decide_eq_true h45, Bool.or_true]
    rcases e with e | e | e
    · exact .inr (.inl ⟨e, h0, h45, ht⟩)
    · exact .inr (.inr (.inr (.inr (.inr (.inl ⟨e, h0, h45, ht⟩)))))
    · exact absurd e h3
  · have hz0 : 0 ≤ z := by
      rcases (show z < 0 ∨ 0 ≤ z by omega) with h | h
      · exfalso
        rcases hz with ⟨rfl, _⟩ | ⟨_, ds, rfl, _, _, _⟩
        · omega
        · rw [if_pos h] at h45
          exact h45 rfl
      · exact h
    have hc : nbad b = true ↔ ¬ 2 ≤ z := by
      rw [hn, ← hh]
      simp
    rcases e with e | e | e
    · have hv := hv e
      rw [hv]
      by_cases h1 : z = 1
      · exact .inr (.inr (.inl ⟨e, h0, h45, h1, hc.2 (by omega)⟩))
      · by_cases h2 : z = 0
        · exact .inr (.inr (.inr (.inl ⟨e, h0, h45, h1, by rw [h2]; rfl, hc.2 (by omega)⟩)))
        · refine .inr (.inr (.inr (.inr (.inl ⟨e, h0, h45, h1, ?_, ?_⟩))))
          · unfold cmpI
            rw [if_neg (by omega), if_neg (by omega)]
          · rcases Bool.eq_false_or_eq_true (nbad b) with h | h
            · have := hc.1 h; omega
            · exact h
    · refine .inr (.inr (.inr (.inr (.inr (.inr ⟨e, h0, h45, ?_, ?_⟩)))))
      · rw [tv_zero (by omega)]; decide
      · rcases Bool.eq_false_or_eq_true (nbad b) with h | h
        · exfalso
          have h5 := hc.1 h
          have h6 : txe b = 0 := by
            have hz1 : z = 0 ∨ z = 1 := by omega
            have hsz : b.size ≤ 20000 := by
              rcases hz with ⟨_, rfl⟩ | ⟨hne, ds, rfl, hn2, hp2, hd2⟩
              · decide
              · have h7 := plain_lower hp2 hn2
                have h8 : dnum ds = 1 := by omega
                have h9 : ds.length - 1 = 0 := by
                  rcases Nat.eq_zero_or_pos (ds.length - 1) with h | h
                  · exact h
                  · have := Nat.pow_le_pow_right (show 0 < 10 by decide) h
                    omega
                show ((if z < 0 then [45] else []) ++ ds).toArray.size ≤ _
                rw [if_neg (by omega)]
                simp
                omega
            exact (txt_ec hz hsz).1
          omega
        · exact h
    · exact absurd e h3
theorem rc2_nb (a b : ByteArray) : rc2 a b = if txe a = 3 then 3 else if nbad b = true then 3 else if txe a = 0 ∧ txe b = 0 then (if Nat.gcd (txv a).natAbs (txv b).natAbs = 1 then 0 else 3) else 2 := by
  unfold rc2 nbad
  by_cases h1 : txe a = 3
  · rw [if_pos (.inl h1), if_pos h1]
  · by_cases h2 : txe b = 3
    · rw [if_pos (.inr h2), if_neg h1, if_pos (by rw [decide_eq_true h2]; rfl)]
    · rw [if_neg (fun h => h.elim h1 h2), if_neg h1, decide_eq_false h2, Bool.false_or]
end Go.Proofs.YtgljdfblgpdaaaaGreatDoor
