/- Texts of integers: Parse and Print by values. -/
import Derived.Test.YtlloilbinobljaaGreatDoorNumPErr
import Derived.Test.YtlloilbinobljaaGreatDoorNumIv
set_option linter.unusedSimpArgs false
set_option linter.unusedVariables false
namespace Go.Proofs.YtlloilbinobljaaGreatDoor
open Go.RowKit

/-- The text of an integer. -/
def IsTxt (s : ByteArray) (z : Int) : Prop :=
  (z = 0 ∧ s = ⟨#[48]⟩) ∨ (z ≠ 0 ∧ ∃ ds : List UInt8, s = ⟨((if z < 0 then [45] else []) ++ ds).toArray⟩ ∧ ds ≠ [] ∧ Plain ds ∧ dnum ds = z.natAbs)
theorem bytes_eta (s : ByteArray) : (⟨s.data.toList.toArray⟩ : ByteArray) = s := by cases s; simp
theorem IsTxt.uniq {s t : ByteArray} {z : Int} (h : IsTxt s z) (k : IsTxt t z) : s = t := by
  rcases h with ⟨h0, rfl⟩ | ⟨h0, ds, rfl, hne, hp, hd⟩
  · rcases k with ⟨_, rfl⟩ | ⟨k0, _⟩
    · rfl
    · exact absurd h0 k0
  · rcases k with ⟨k0, _⟩ | ⟨k0, es, rfl, kne, kp, kd⟩
    · exact absurd k0 h0
    · rw [plain_inj hp kp (hd.trans kd.symm)]
theorem digs_of {l : List UInt8} (h0 : l ≠ []) (h : ∀ c ∈ l, isDg c) : digs ⟨l.toArray⟩ = true := by
  unfold digs
  have hs : (⟨l.toArray⟩ : ByteArray).size = l.length := rfl
  rw [Bool.and_eq_true, decide_eq_true_eq, decide_eq_true_eq]
  refine ⟨by rw [hs]; exact fun e => h0 (List.eq_nil_of_length_eq_zero e), fun i hi => ?_⟩
  rw [byt_at hi]
  have : (⟨l.toArray⟩ : ByteArray)[i] = l[i]'(by rw [hs] at hi; exact hi) := rfl
  rw [this]
  exact h _ (List.getElem_mem _)
theorem pre_yes (ds : List UInt8) : pNeg ⟨(45 :: ds).toArray⟩ = true ∧ pDig ⟨(45 :: ds).toArray⟩ = ⟨ds.toArray⟩ := by
  constructor
  · simp [pNeg, Lib.hasPrefix, List.isPrefixOf]
  · simp [pDig, Lib.trimPrefix, Lib.hasPrefix, List.isPrefixOf]
theorem pre_no {s : ByteArray} (h : s.data.toList.head? ≠ some 45) : pNeg s = false ∧ pDig s = s := by
  have h1 : Lib.hasPrefix s.data.toList [45] = false := by
    cases hl : s.data.toList with
    | nil => rfl
    | cons c r =>
      rw [hl] at h
      simp only [List.head?_cons, ne_eq, Option.some.injEq] at h
      simp [Lib.hasPrefix, List.isPrefixOf]
      exact fun e => h e.symm
  refine ⟨h1, ?_⟩
  unfold pDig Lib.trimPrefix
  rw [h1]
  exact bytes_eta s
theorem plain_head {ds : List UInt8} (h : Plain ds) : ds.head? ≠ some 45 := by
  intro e
  cases ds with
  | nil => cases e
  | cons c r =>
    have := h.1 c (by simp)
    simp only [List.head?_cons, Option.some.injEq] at e
    subst e
    exact absurd this.1 (by decide)
theorem plain_byt {ds : List UInt8} (h : Plain ds) (h0 : ds ≠ []) : byt ⟨ds.toArray⟩ 0 ≠ 48 := by
  cases ds with
  | nil => exact absurd rfl h0
  | cons c r =>
    intro e
    have e' : c.toNat = 48 := e
    refine h.2 ?_
    simp only [List.head?_cons, Option.some.injEq]
    exact UInt8.toNat_inj.1 e'
/-- Parse of the text of an integer. -/
theorem Parse_txt {w : World} {s : ByteArray} {z : Int} (h : IsTxt s z) (hs : s.size ≤ 20000) (hT : Tens w) : Calls Tryz.prog 78 #[.string s] w (PRes w z) := by
  rcases h with ⟨rfl, rfl⟩ | ⟨h0, ds, rfl, hne, hp, hd⟩
  · have h := Parse_ok w ⟨#[48]⟩ ⟨#[48]⟩ false (by rfl) (by rfl) (by decide) (fun _ => rfl) (by decide) hT
    exact h
  · by_cases hz : z < 0
    · rw [if_pos hz] at hs ⊢
      obtain ⟨g1, g2⟩ := pre_yes ds
      have h := Parse_ok w ⟨(45 :: ds).toArray⟩ ⟨ds.toArray⟩ true g2 g1 (digs_of hne hp.1) (fun e => absurd e (plain_byt hp hne)) (by
        have e1 : (⟨([45] ++ ds).toArray⟩ : ByteArray).size = ds.length + 1 := by show ([45] ++ ds).length = _; simp
        have e2 : (⟨ds.toArray⟩ : ByteArray).size = ds.length := rfl
        omega) hT
      rw [if_pos rfl] at h
      have e : -(dnum ds : Int) = z := by rw [hd]; omega
      have e2 : (⟨ds.toArray⟩ : ByteArray).data.toList = ds := by simp
      rw [e2, e] at h
      exact h
    · rw [if_neg hz] at hs ⊢
      obtain ⟨g1, g2⟩ := pre_no (s := ⟨([] ++ ds).toArray⟩) (by simpa using plain_head hp)
      have h := Parse_ok w ⟨([] ++ ds).toArray⟩ ⟨ds.toArray⟩ false (by rw [g2]; rfl) g1 (digs_of hne hp.1) (fun e => absurd e (plain_byt hp hne)) hs hT
      rw [if_neg (by decide)] at h
      have e : (dnum ds : Int) = z := by rw [hd]; omega
      have e2 : (⟨ds.toArray⟩ : ByteArray).data.toList = ds := by simp
      rw [e2, e] at h
      exact h
/-- A text that denotes no integer. -/
def BadTxt (s : ByteArray) : Prop := digs (pDig s) = false ∨ (digs (pDig s) = true ∧ byt (pDig s) 0 = 48 ∧ s ≠ ⟨#[48]⟩)
theorem txt_cases (s : ByteArray) : (∃ z, IsTxt s z) ∨ BadTxt s := by
  by_cases hd : digs (pDig s) = true
  · by_cases hs0 : s = ⟨#[48]⟩
    · exact .inl ⟨0, .inl ⟨rfl, hs0⟩⟩
    · by_cases h48 : byt (pDig s) 0 = 48
      · exact .inr (.inr ⟨hd, h48, hs0⟩)
      · left
        obtain ⟨hne, hdg⟩ := digs_is hd
        obtain ⟨ds, hds⟩ : ∃ ds, ds = (pDig s).data.toList := ⟨_, rfl⟩
        rw [← hds] at hne hdg
        have hp : Plain ds := ⟨hdg, fun e => h48 (by
          have e1 : pDig s = ⟨ds.toArray⟩ := by rw [hds]
          rw [e1]
          cases ds with
          | nil => exact absurd rfl hne
          | cons c r =>
            simp only [List.head?_cons, Option.some.injEq] at e
            subst e
            rfl)⟩
        have hpos : 0 < dnum ds := Nat.lt_of_lt_of_le (Nat.pow_pos (by decide)) (plain_lower hp hne)
        by_cases hn : pNeg s = true
        · refine ⟨-(dnum ds : Int), .inr ⟨by omega, ds, ?_, hne, hp, by omega⟩⟩
          rw [if_pos (by omega)]
          have e1 : s.data.toList = 45 :: ds := by
            have h1 : Lib.hasPrefix s.data.toList [45] = true := hn
            rw [hds]
            unfold pDig Lib.trimPrefix
            rw [if_pos h1]
            cases hl : s.data.toList with
            | nil => rw [hl] at h1; cases h1
            | cons c r =>
              rw [hl] at h1
              simp [Lib.hasPrefix, List.isPrefixOf] at h1
              simp [h1]
          show s = ⟨(45 :: ds).toArray⟩
          rw [← e1]
        · have hn' : pNeg s = false := by simpa using hn
          refine ⟨(dnum ds : Int), .inr ⟨by omega, ds, ?_, hne, hp, by omega⟩⟩
          rw [if_neg (by omega)]
          have e1 : pDig s = s := by
            have h1 : Lib.hasPrefix s.data.toList [45] = false := hn'
            unfold pDig Lib.trimPrefix
            rw [h1]; exact bytes_eta s
          rw [hds, e1]
          exact (bytes_eta s).symm
  · exact .inr (.inl (by simpa using hd))
theorem Parse_bad {w : World} {s : ByteArray} (h : BadTxt s) (hs : s.size ≤ 900000) : Calls Tryz.prog 78 #[.string s] w (PErr w 3) := by
  have hsz : (pDig s).size ≤ 1000000 := by
    unfold pDig Lib.trimPrefix
    have e : s.data.toList.length = s.size := rfl
    split
    · show (s.data.toList.drop _).length ≤ _
      rw [List.length_drop]; omega
    · show s.data.toList.length ≤ _
      omega
  rcases h with h | ⟨h1, h2, h3⟩
  · exact Parse_form1 w s _ _ rfl rfl h hsz
  · have hpos : 0 < (pDig s).size := by
      obtain ⟨hne, _⟩ := digs_is h1
      have := List.length_pos_iff.2 hne
      exact this
    rw [byt_at hpos] at h2
    refine Parse_form2 w s _ _ rfl rfl h1 hpos (by omega) ?_ hsz
    rw [ByteArray.toList_eq]
    simp only [Bool.not_eq_true', beq_eq_false_iff_ne, ne_eq]
    intro e
    refine h3 ?_
    rw [← bytes_eta s, e]
/-- A call of Print returned the text of z. -/
def PrT (w : World) (z : Int) (e : Ending) (w' : World) : Prop := ∃ s, e = .returned (.string s) ∧ IsTxt s z ∧ Below w.heap.size w w'
theorem Print_can {w : World} {n : Bool} {A : Option Addr} {c : Nat} {l : List Nat} {z : Int} (hws : WS w A l) (hcan : isB n l = true) (hval : zI n l = z) (hlen : l.length ≤ 10000) (hT : Tens w) :
    Calls Tryz.prog 88 #[.agg #[.bool n, .slice A l.length c]] w (PrT w z) := by
  rcases Nat.eq_zero_or_pos l.length with h0 | h0
  · obtain rfl := List.eq_nil_of_length_eq_zero h0
    obtain rfl : n = false := isB_nil hcan rfl
    refine (Print_zero w A c).mono ?_
    rintro e w' ⟨rfl, hb⟩
    exact ⟨_, rfl, .inl ⟨by rw [← hval]; rfl, rfl⟩, hb⟩
  · have hv := val_pos (isB_top hcan) h0
    refine (Print_pos w n A c l h0 hlen hws hcan hT).mono ?_
    rintro e w' ⟨ds, rfl, hne, hp, hd, hb⟩
    refine ⟨_, rfl, .inr ⟨?_, ds, ?_, hne, hp, ?_⟩, hb⟩
    · rw [← hval]; unfold zI; split <;> omega
    · cases n
      · have hz : ¬ z < 0 := by rw [← hval]; unfold zI; simp
        show (⟨([] ++ ds).toArray⟩ : ByteArray) = _
        rw [if_neg hz]
      · have hz : z < 0 := by rw [← hval]; unfold zI; simp; omega
        show (⟨([45] ++ ds).toArray⟩ : ByteArray) = _
        rw [if_pos hz]
    · rw [hd, ← hval]; unfold zI; split <;> omega
theorem Print_iv {w : World} {n : Bool} {A : Option Addr} {c : Nat} {l : List Nat} {z : Int} (h : IV w n A c l z) (hT : Tens w) :
    Calls Tryz.prog 88 #[.agg #[.bool n, .slice A l.length c]] w (PrT w z) := by
  have e1 := h.len
  exact Print_can h.ws h.can h.val (by omega) hT
/-- A digit behind a text. -/
theorem IsTxt.digit {s : ByteArray} {z : Int} (h : IsTxt s z) (h0 : z ≠ 0) (d : Nat) (hd : d < 10) : IsTxt ⟨(s.data.toList ++ [UInt8.ofNat (48 + d)]).toArray⟩ (z * 10 + (d : Int) * cmpI z 0) := by
  rcases h with ⟨h1, _⟩ | ⟨_, ds, rfl, hne, hp, hv⟩
  · exact absurd h1 h0
  · obtain ⟨g1, g2⟩ := isDg_of d hd
    have hpos : 0 < z.natAbs := by omega
    have hz : (z < 0 ∧ cmpI z 0 = -1) ∨ (0 < z ∧ cmpI z 0 = 1) := by
      unfold cmpI
      rcases Int.lt_or_gt_of_ne h0 with h | h
      · left; exact ⟨h, if_pos h⟩
      · right; exact ⟨h, by rw [if_neg (by omega), if_neg (by omega)]⟩
    refine .inr ⟨?_, ds ++ [UInt8.ofNat (48 + d)], ?_, by simp, ⟨fun c hc => ?_, fun e => ?_⟩, ?_⟩
    · rcases hz with ⟨a, b⟩ | ⟨a, b⟩ <;> rw [b] <;> omega
    · have e : (z * 10 + (d : Int) * cmpI z 0 < 0) ↔ z < 0 := by rcases hz with ⟨a, b⟩ | ⟨a, b⟩ <;> rw [b] <;> omega
      simp only [e]
      simp [List.append_assoc]
    · rcases List.mem_append.1 hc with h | h
      · exact hp.1 c h
      · rw [List.mem_singleton.1 h]; exact g1
    · refine hp.2 ?_
      cases ds with
      | nil => exact absurd rfl hne
      | cons c r => simpa using e
    · rw [dnum_snoc, hv, g2]
      rcases hz with ⟨a, b⟩ | ⟨a, b⟩ <;> rw [b] <;> omega
theorem bb_pow (n : Nat) : BB n = 2 ^ (32 * n) := by unfold BB; rw [show (4294967296 : Nat) = 2 ^ 32 from rfl, ← Nat.pow_mul]
theorem IsTxt.size {s : ByteArray} {z : Int} (h : IsTxt s z) (hz : Lt 60 z) : s.size ≤ 2000 := by
  rcases h with ⟨_, rfl⟩ | ⟨_, ds, rfl, hne, hp, hv⟩
  · decide
  · have h1 := plain_lower hp hne
    have h2 : z.natAbs < BB 60 := hz
    have h3 : 2 ^ (ds.length - 1) ≤ 10 ^ (ds.length - 1) := Nat.pow_le_pow_left (by decide) _
    have h5 := Nat.lt_of_le_of_lt h3 (Nat.lt_of_le_of_lt (hv ▸ h1) h2)
    rw [bb_pow] at h5
    have h6 := (Nat.pow_lt_pow_iff_right (by decide : 1 < 2)).1 h5
    show ((if z < 0 then [45] else []) ++ ds).length ≤ 2000
    rw [List.length_append]
    split <;> simp <;> omega
end Go.Proofs.YtlloilbinobljaaGreatDoor
