/- NumTexts: what both Parse and both Print give, and the law's walk. -/
import Derived.Test.YtlloilbinobljaaDoorNumRParse
import Derived.Test.YtlloilbinobljaaDoorNumRPrint
import Derived.Test.YtlloilbinobljaaDoorNumEx
import Derived.Deep.RegionWith
import Derived.Deep.DeepCutAuto
import Derived.Outline
set_option linter.unusedSimpArgs false
set_option linter.unusedVariables false
namespace Go.Proofs.YtlloilbinobljaaDoor
open Go.RowKit

theorem plain_ex : ∀ V : Nat, 0 < V → ∃ ds : List UInt8, ds ≠ [] ∧ Plain ds ∧ dnum ds = V := by
  intro V
  induction V using Nat.strongRecOn with
  | _ V ih =>
    intro h
    rcases Nat.lt_or_ge V 10 with h1 | h1
    · have e := isDg_of V h1
      refine ⟨[UInt8.ofNat (48 + V)], by simp, ⟨fun c hc => by rw [List.mem_singleton.1 hc]; exact e.1, fun hh => ?_⟩, ?_⟩
      · rw [List.head?_cons, Option.some.injEq] at hh
        have h3 := congrArg UInt8.toNat hh
        rw [UInt8.toNat_ofNat', Nat.mod_eq_of_lt (by omega)] at h3
        have h4 : (48 : UInt8).toNat = 48 := rfl
        omega
      · rw [show [UInt8.ofNat (48 + V)] = [] ++ [UInt8.ofNat (48 + V)] from rfl, dnum_snoc, e.2, dnum_nil]; omega
    · obtain ⟨ds, hne, hp, hd⟩ := ih (V / 10) (by omega) (by omega)
      have e := isDg_of (V % 10) (by omega)
      refine ⟨ds ++ [UInt8.ofNat (48 + V % 10)], by simp, ⟨fun c hc => ?_, fun hh => ?_⟩, ?_⟩
      · rcases List.mem_append.1 hc with h2 | h2
        · exact hp.1 c h2
        · rw [List.mem_singleton.1 h2]; exact e.1
      · cases ds with
        | nil => exact hne rfl
        | cons x r => exact hp.2 (by simpa using hh)
      · rw [dnum_snoc, e.2, hd]; omega
theorem txt_ex (z : Int) : ∃ s, IsTxt s z := by
  by_cases h0 : z = 0
  · exact ⟨_, .inl ⟨h0, rfl⟩⟩
  · obtain ⟨ds, hne, hp, hd⟩ := plain_ex z.natAbs (by omega)
    exact ⟨_, .inr ⟨h0, ds, rfl, hne, hp, hd⟩⟩

/-- A call returned the text t and kept what was there. -/
def StrR (t : ByteArray) (W : World) (e : Ending) (w' : World) : Prop := e = .returned (.string t) ∧ Below W.heap.size W w'
/-- Both Print of one integer give one text. -/
theorem prints_both (w : World) (ng : Bool) (A : Option Addr) (c : Nat) (l : List Nat) (hm : l.length ≤ 10000) (hl : WS w A l) (hT : Tens w) :
    ∃ t, ∀ W, Below w.heap.size w W → Calls Tryd.prog 9 #[.agg #[.bool ng, .slice A l.length c]] W (StrR t W) ∧ Calls Tryd.prog 10 #[.agg #[.bool ng, .slice A l.length c]] W (StrR t W) := by
  rcases Bool.eq_false_or_eq_true (isB ng l) with hB | hB
  · obtain ⟨t, ht⟩ := txt_ex (zI ng l)
    refine ⟨t, fun W hW => ⟨?_, ?_⟩⟩
    · refine (Print_can (hl.below hW) hB rfl hm (hT.below hW)).mono ?_
      rintro e w' ⟨s, rfl, hs, hb⟩
      rw [hs.uniq ht]
      exact ⟨rfl, hb⟩
    · rcases Nat.eq_zero_or_pos l.length with h0 | h0
      · obtain rfl := List.eq_nil_of_length_eq_zero h0
        obtain rfl : ng = false := isB_nil hB rfl
        refine (RPrint_zero W A c).mono ?_
        rintro e w' ⟨rfl, hb⟩
        have hs : IsTxt ⟨#[48]⟩ (zI false []) := .inl ⟨rfl, rfl⟩
        rw [hs.uniq ht]
        exact ⟨rfl, hb⟩
      · have hv := val_pos (isB_top hB) h0
        refine (RPrint_pos W ng A c l h0 hm (hl.below hW) hB).mono ?_
        rintro e w' ⟨ds, rfl, hne, hp, hd, hb⟩
        have hs : IsTxt ⟨((if ng = true then [45] else []) ++ ds).toArray⟩ (zI ng l) := by
          refine .inr ⟨?_, ds, ?_, hne, hp, ?_⟩
          · unfold zI; split <;> omega
          · cases ng
            · have hz : ¬ zI false l < 0 := by unfold zI; simp
              rw [if_neg hz]; rfl
            · have hz : zI true l < 0 := by unfold zI; simp; omega
              rw [if_pos hz]; rfl
          · rw [hd]; unfold zI; split <;> omega
        have e2 := hs.uniq ht
        exact ⟨by rw [← e2], hb⟩
  · refine ⟨⟨#[]⟩, fun W hW => ⟨?_, ?_⟩⟩
    · exact Print_form W ng A c l (by omega) (hl.below hW) hB
    · exact RPrint_form W ng A c l (by omega) (hl.below hW) hB

/-- What a call of Parse returned: an integer and an error. -/
def PX (z er : Int) (W : World) (e : Ending) (w' : World) : Prop :=
  ∃ n A c l, e = .returned (.tuple #[.agg #[.bool n, .slice A l.length c], .int .i64 er]) ∧ WS w' A l ∧ isB n l = true ∧ zI n l = z ∧ l.length ≤ 1000000 ∧ Below W.heap.size W w'
theorem PRes.px {W : World} {z : Int} {e : Ending} {w' : World} {N : Nat} (h : PRes W z e w') (hN : N ≤ 900000) (hz : z.natAbs < 10 ^ N) : PX z 0 W e w' := by
  obtain ⟨n, A, c, l, he, hw, hB, hv, hb⟩ := h
  refine ⟨n, A, c, l, he, hw, hB, hv, ?_, hb⟩
  have h1 : val l = z.natAbs := by rw [← hv]; unfold zI; split <;> simp
  have := len_of_val (i := N) (isB_top hB) (by rw [h1]; exact hz)
  omega
theorem PErr.px {W : World} {er : Int} {e : Ending} {w' : World} (h : PErr W er e w') : PX 0 er W e w' :=
  ⟨false, none, 0, [], h.1, WS.nil_ _ _, rfl, rfl, by decide, h.2⟩
/-- What a text is worth, and the error. -/
def pv (ng : Bool) (t : ByteArray) : Int := if digs t = true ∧ t.size ≤ 20000 then (if ng = true then -(dnum t.data.toList : Int) else (dnum t.data.toList : Int)) else 0
def pe (t : ByteArray) : Int := if digs t = true then (if t.size ≤ 20000 then 0 else 2) else 3
theorem dnum_natAbs {t : ByteArray} {ng : Bool} (hd : digs t = true) : (if ng = true then -(dnum t.data.toList : Int) else (dnum t.data.toList : Int)).natAbs < 10 ^ t.size := by
  have h1 := dnum_lt t.data.toList (digs_is hd).2
  have e : (if ng = true then -(dnum t.data.toList : Int) else (dnum t.data.toList : Int)).natAbs = dnum t.data.toList := by split <;> simp
  rw [e]
  exact h1
theorem RPo.px {W : World} {ng : Bool} {t : ByteArray} {e : Ending} {w' : World} (h : RPo W ng t e w') : PX (pv ng t) (pe t) W e w' := by
  unfold pv pe
  rcases h with ⟨h1, h2, h3⟩ | ⟨h1, h2, h3⟩ | ⟨h1, h3⟩
  · rw [if_pos ⟨h1, h2⟩, if_pos h1, if_pos h2]
    exact h3.px (by omega) (dnum_natAbs h1)
  · rw [if_neg (by omega), if_pos h1, if_neg (by omega)]
    exact h3.px
  · rw [if_neg (by rw [h1]; simp), if_neg (by rw [h1]; decide)]
    exact h3.px
theorem cut_yes {s : ByteArray} (h0 : 0 < s.size) (h : byt s 0 = 45) : pNeg s = true ∧ pDig s = s.extract 1 s.size := by
  rw [byt_at h0] at h
  obtain ⟨ds, hds⟩ : ∃ ds, s.data.toList = 45 :: ds := by
    have h3 : s.data.toList[0]? = some s[0] := List.getElem?_eq_getElem (by simpa using h0)
    cases hd : s.data.toList with
    | nil => rw [hd] at h3; cases h3
    | cons c r =>
      rw [hd] at h3
      simp only [List.getElem?_cons_zero, Option.some.injEq] at h3
      refine ⟨r, ?_⟩
      rw [h3, show s[0] = 45 from UInt8.toNat_inj.1 h]
  have e : s = ⟨(45 :: ds).toArray⟩ := by rw [← hds, bytes_eta]
  obtain ⟨g1, g2⟩ := pre_yes ds
  rw [← e] at g1 g2
  refine ⟨g1, g2.trans ?_⟩
  have h2 := ext_list s 1
  rw [hds] at h2
  rw [show ds = (s.extract 1 s.size).data.toList from h2.symm, bytes_eta]
theorem cut_no {s : ByteArray} (h : ¬ (0 < s.size ∧ byt s 0 = 45)) : pNeg s = false ∧ pDig s = s := by
  refine pre_no fun e => h ?_
  cases hd : s.data.toList with
  | nil => rw [hd] at e; cases e
  | cons c r =>
    have h1 : s.data.toList.length = s.size := by simp
    rw [hd] at h1 e
    simp at h1 e
    have h0 : 0 < s.size := by omega
    refine ⟨h0, ?_⟩
    have h3 : s.data.toList[0]? = some s[0] := List.getElem?_eq_getElem (by simpa using h0)
    rw [hd] at h3
    simp only [List.getElem?_cons_zero, Option.some.injEq] at h3
    rw [byt_at h0, ← h3, e]
    rfl
theorem digs_nil {t : ByteArray} (h : t.size = 0) : digs t = false := by unfold digs; simp [h]
theorem toList_nil {t : ByteArray} (h : t.size = 0) : t.toList = [] := by
  rw [ByteArray.toList_eq]
  exact List.eq_nil_of_length_eq_zero (by simpa using h)
theorem is_zero {s : ByteArray} (h1 : s.size = 1) (h : byt s 0 = 48) : s = ⟨#[48]⟩ := by
  have h0 : 0 < s.size := by omega
  rw [byt_at h0] at h
  have h3 : s.data.toList[0]? = some s[0] := List.getElem?_eq_getElem (by simpa using h0)
  have h2 : s.data.toList.length = 1 := by simpa using h1
  rw [show s[0] = 48 from UInt8.toNat_inj.1 h] at h3
  rw [← bytes_eta s]
  cases hd : s.data.toList with
  | nil => rw [hd] at h3; cases h3
  | cons c r =>
    rw [hd] at h3 h2
    simp at h3 h2
    rw [h3, h2]
theorem RParse_all (w : World) (s : ByteArray) (hs : s.size ≤ 900000) :
    Calls Tryd.prog 7 #[.string s] w (fun e w' => if byt (pDig s) 0 = 48 ∧ s ≠ ⟨#[48]⟩ then PErr w 3 e w' else RPo w (pNeg s) (pDig s) e w') := by
  by_cases h45 : 0 < s.size ∧ byt s 0 = 45
  · obtain ⟨g1, g2⟩ := cut_yes h45.1 h45.2
    obtain ⟨t, ht⟩ : ∃ t, s.extract 1 s.size = t := ⟨_, rfl⟩
    rw [g1, g2, ht]
    have hne : s ≠ ⟨#[48]⟩ := fun e => by rw [e] at h45; exact absurd h45.2 (by decide)
    have h45' : s[0].toNat = 45 := by rw [← byt_at h45.1]; exact h45.2
    have htl : t.size ≤ 1000000 := by
      rw [← ht, ByteArray.size_extract]
      omega
    rcases Nat.eq_zero_or_pos t.size with h0 | h0
    · have hb : ¬ (byt t 0 = 48 ∧ s ≠ ⟨#[48]⟩) := fun h => by
        have h1 : byt t 0 = 0 := by unfold byt; rw [Array.getD_eq_getD_getElem?, Array.getElem?_eq_none (by simpa using Nat.le_of_eq h0)]; rfl
        omega
      refine (RParse_e3 w s t ht h45.1 (toList_nil h0) h45').mono fun e w' h => ?_
      rw [if_neg hb]
      exact .inr (.inr ⟨digs_nil h0, h⟩)
    · by_cases h48 : byt t 0 = 48
      · refine (RParse_e4 w s t ht h45.1 h0 h45' h48).mono fun e w' h => ?_
        rw [if_pos ⟨h48, hne⟩]
        exact h
      · refine (RParse_neg w s t ht h45.1 h0 htl h45' h48).mono fun e w' h => ?_
        rw [if_neg (fun h => h48 h.1)]
        exact h
  · obtain ⟨g1, g2⟩ := cut_no h45
    rw [g1, g2]
    rcases Nat.eq_zero_or_pos s.size with h0 | h0
    · have hb : ¬ (byt s 0 = 48 ∧ s ≠ ⟨#[48]⟩) := fun h => by
        have h1 : byt s 0 = 0 := by unfold byt; rw [Array.getD_eq_getD_getElem?, Array.getElem?_eq_none (by simpa using Nat.le_of_eq h0)]; rfl
        omega
      refine (RParse_e1 w s (toList_nil h0)).mono fun e w' h => ?_
      rw [if_neg hb]
      exact .inr (.inr ⟨digs_nil h0, h⟩)
    · by_cases h48 : byt s 0 = 48
      · by_cases h1 : s.size = 1
        · refine (RParse_zero w s h0 h1 h48).mono fun e w' h => ?_
          rw [if_neg (fun h => h.2 (is_zero h1 h48))]
          exact h
        · refine (RParse_e2 w s h0 (by omega) h48).mono fun e w' h => ?_
          rw [if_pos ⟨h48, fun e => h1 (by rw [e]; rfl)⟩]
          exact h
      · refine (RParse_pos w s h0 (by omega) (fun h => h45 ⟨h0, h⟩) h48).mono fun e w' h => ?_
        rw [if_neg (fun h => h48 h.1)]
        exact h
theorem Parse_all (w : World) (s : ByteArray) (hs : s.size ≤ 900000) (hT : Tens w) :
    Calls Tryd.prog 6 #[.string s] w (fun e w' => if byt (pDig s) 0 = 48 ∧ s ≠ ⟨#[48]⟩ then PErr w 3 e w' else RPo w (pNeg s) (pDig s) e w') := by
  have htl : (pDig s).size ≤ 1000000 := by
    by_cases h45 : 0 < s.size ∧ byt s 0 = 45
    · rw [(cut_yes h45.1 h45.2).2, ByteArray.size_extract]; omega
    · rw [(cut_no h45).2]; omega
  by_cases hz : byt (pDig s) 0 = 48 ∧ s ≠ ⟨#[48]⟩
  · simp only [if_pos hz]
    by_cases hd : digs (pDig s) = true
    · have hp : 0 < (pDig s).size := by
        rcases Nat.eq_zero_or_pos (pDig s).size with h | h
        · rw [digs_nil h] at hd; cases hd
        · exact h
      refine Parse_form2 w s _ _ rfl rfl hd hp (by rw [← byt_at hp, hz.1]; rfl) ?_ htl
      rw [ByteArray.toList_eq]
      simp only [Bool.not_eq_true', beq_eq_false_iff_ne, ne_eq]
      intro e
      refine hz.2 ?_
      rw [← bytes_eta s, e]
    · exact Parse_form1 w s _ _ rfl rfl (by simpa using hd) htl
  · simp only [if_neg hz]
    by_cases hd : digs (pDig s) = true
    · have hp : 0 < (pDig s).size := by
        rcases Nat.eq_zero_or_pos (pDig s).size with h | h
        · rw [digs_nil h] at hd; cases hd
        · exact h
      by_cases hl : (pDig s).size ≤ 20000
      · refine (Parse_ok w s _ _ rfl rfl hd (fun h => ?_) hl hT).mono fun e w' h => .inl ⟨hd, hl, h⟩
        rcases Classical.em (s = ⟨#[48]⟩) with h1 | h1
        · exact h1
        · exact absurd ⟨h, h1⟩ hz
      · refine (Parse_limit w s _ _ rfl rfl hd hp ?_ (by omega) htl).mono fun e w' h => .inr (.inl ⟨hd, by omega, h⟩)
        refine beq_eq_false_iff_ne.2 fun h => ?_
        rw [← byt_at hp] at h
        have h1 : s = ⟨#[48]⟩ := by
          rcases Classical.em (s = ⟨#[48]⟩) with h1 | h1
          · exact h1
          · exact absurd ⟨by omega, h1⟩ hz
        rw [h1] at hl
        exact hl (by decide)
    · exact (Parse_form1 w s _ _ rfl rfl (by simpa using hd) htl).mono fun e w' h => .inr (.inr ⟨by simpa using hd, h⟩)
/-- Both Parse of one text give one integer and one error. -/
theorem parses_both (s : ByteArray) (hs : s.size ≤ 900000) : ∃ z er, ∀ W, Tens W → Calls Tryd.prog 6 #[.string s] W (PX z er W) ∧ Calls Tryd.prog 7 #[.string s] W (PX z er W) := by
  by_cases hz : byt (pDig s) 0 = 48 ∧ s ≠ ⟨#[48]⟩
  · refine ⟨0, 3, fun W hT => ⟨(Parse_all W s hs hT).mono fun e w' h => ?_, (RParse_all W s hs).mono fun e w' h => ?_⟩⟩
    · rw [if_pos hz] at h; exact h.px
    · rw [if_pos hz] at h; exact h.px
  · refine ⟨pv (pNeg s) (pDig s), pe (pDig s), fun W hT => ⟨(Parse_all W s hs hT).mono fun e w' h => ?_, (RParse_all W s hs).mono fun e w' h => ?_⟩⟩
    · rw [if_neg hz] at h; exact h.px
    · rw [if_neg hz] at h; exact h.px

set_option maxRecDepth 100000 in
set_option maxHeartbeats 2000000 in
theorem NumTexts_long (w : World) (text : ByteArray) (na : Bool) (A : Option Addr) (x ca : Nat) (hlong : ¬ x ≤ 200) (hT : Tens w) :
    Calls Tryd.prog 3 #[.string text, .agg #[.bool na, .slice A x ca]] w fun e w' => e = .returned (.bool true) ∧ Below w.heap.size w w' := by
  have HTn := Lib.hid hT
  have hsh := fun W => short_wide 200 na na na A A A x x x ca ca ca W (by omega) false (by rw [Bool.eq_false_iff]; intro h; simp only [Bool.and_eq_true, decide_eq_true_eq] at h; exact hlong h.2)
  have HSH := Lib.hid hsh
  clear hlong
  clear hT hsh
  go_enter Tryd.func3, Tryd.ntmps3
  go_wp2_with fail
  refine (HSH.out _).mono ?_
  rintro e w2 ⟨rfl, hb2⟩
  have hb : Below w.heap.size w w2 := bt (ba (b0 _) _) hb2
  go_wp2_with fail
  refine (sane_any w2 (HTn.out.below hb)).mono ?_
  rintro e w3 ⟨rfl, hb3⟩
  go_wp2_with fail
  go_ret
  exact ⟨rfl, bt hb hb3⟩

set_option maxRecDepth 100000 in
set_option maxHeartbeats 2000000 in
theorem NumTexts_mid (w : World) (text : ByteArray) (na : Bool) (A : Option Addr) (x ca : Nat) (hx : x ≤ 200) (h1 : 3000 < text.size) (h2 : text.size ≤ 20001) (hT : Tens w) :
    Calls Tryd.prog 3 #[.string text, .agg #[.bool na, .slice A x ca]] w fun e w' => e = .returned (.bool true) ∧ Below w.heap.size w w' := by
  have HTn := Lib.hid hT
  have hsh := fun W => short_wide 200 na na na A A A x x x ca ca ca W (by omega) true (by simp [hx])
  have HSH := Lib.hid hsh
  have h1i : (3000 : Int) < (text.size : Int) := by omega
  have h2i : (text.size : Int) ≤ 20001 := by omega
  clear hx h1 h2
  clear hT hsh
  go_enter Tryd.func3, Tryd.ntmps3
  go_wp2_with fail
  refine (HSH.out _).mono ?_
  rintro e w2 ⟨rfl, hb2⟩
  have hb : Below w.heap.size w w2 := bt (ba (b0 _) _) hb2
  go_wp2_with fail
  refine (sane_any w2 (HTn.out.below hb)).mono ?_
  rintro e w3 ⟨rfl, hb3⟩
  go_wp2_with fail
  go_ret
  exact ⟨rfl, bt hb hb3⟩

set_option maxRecDepth 100000 in
set_option maxHeartbeats 2000000 in
theorem NumTexts_big (w : World) (text : ByteArray) (na : Bool) (A : Option Addr) (x ca : Nat) (hx : x ≤ 200) (h1 : 40000 < text.size) (hT : Tens w) :
    Calls Tryd.prog 3 #[.string text, .agg #[.bool na, .slice A x ca]] w fun e w' => e = .returned (.bool true) ∧ Below w.heap.size w w' := by
  have HTn := Lib.hid hT
  have hsh := fun W => short_wide 200 na na na A A A x x x ca ca ca W (by omega) true (by simp [hx])
  have HSH := Lib.hid hsh
  have h1i : (3000 : Int) < (text.size : Int) := by omega
  have h2i : ¬ (text.size : Int) ≤ 20001 := by omega
  have h3i : (40000 : Int) < (text.size : Int) := by omega
  clear hx h1
  clear hT hsh
  go_enter Tryd.func3, Tryd.ntmps3
  go_wp2_with fail
  refine (HSH.out _).mono ?_
  rintro e w2 ⟨rfl, hb2⟩
  have hb : Below w.heap.size w w2 := bt (ba (b0 _) _) hb2
  go_wp2_with fail
  refine (sane_any w2 (HTn.out.below hb)).mono ?_
  rintro e w3 ⟨rfl, hb3⟩
  go_wp2_with fail
  go_ret
  exact ⟨rfl, bt hb hb3⟩

set_option maxRecDepth 100000 in
set_option maxHeartbeats 4000000 in
theorem NumTexts_main1 (w : World) (text : ByteArray) (na : Bool) (A : Option Addr) (ca : Nat) (l : List Nat) (hl : WS w A l) (hx : l.length ≤ 200) (h1 : text.size ≤ 3000) (hT : Tens w) :
    Calls Tryd.prog 3 #[.string text, .agg #[.bool na, .slice A l.length ca]] w fun e w' => e = .returned (.bool true) ∧ Below w.heap.size w w' := by
  have HTn := Lib.hid hT
  have hsh := fun W => short_wide 200 na na na A A A l.length l.length l.length ca ca ca W (by omega) true (by simp [hx])
  have HSH := Lib.hid hsh
  obtain ⟨z, er, hP⟩ := parses_both text (by omega)
  obtain ⟨t, hPr⟩ := prints_both w na A ca l (by omega) hl hT
  have HP := Lib.hid hP
  have HPR := Lib.hid hPr
  have h1i : ¬ (3000 : Int) < (text.size : Int) := by omega
  have h3i : ¬ (40000 : Int) < (text.size : Int) := by omega
  clear h1
  clear hT hsh hP hPr hl hx
  go_enter Tryd.func3, Tryd.ntmps3
  go_wp2_with fail
  obtain ⟨W1, hW1⟩ : ∃ W, W = w.alloc (bx na A l.length ca) := ⟨_, rfl⟩
  have Y0 : Box2 W1 w.heap.size (.bool na) (.slice A l.length ca) := by rw [hW1]; exact Box2.new w _ _
  have K1 : Below w.heap.size w W1 := by rw [hW1]; exact ba (b0 _) _
  change Calls _ _ _ (w.alloc (bx na A l.length ca)) _
  rw [← hW1]
  clear hW1
  refine (HSH.out W1).mono ?_
  rintro e w2 ⟨rfl, hb2⟩
  have K2 : Below w.heap.size w w2 := bt K1 hb2
  have Y2 := Y0.below hb2
  clear Y0 K1 hb2 HSH
  go_wp2_with fail
  refine (HP.out w2 (HTn.out.below K2)).1.mono ?_
  rintro e w3 ⟨n1, A1, c1, l1, rfl, hw1, hB1, hz1, hlen1, hb3⟩
  have V1 := Lib.hid (And.intro hw1 (And.intro hB1 (And.intro hz1 hlen1)))
  have K3 := bt K2 hb3
  have Y3 := Y2.below hb3
  clear hw1 hB1 hz1 hlen1 hb3 K2 Y2
  go_upto_region 4 with fail
  obtain ⟨w4, hw4⟩ : ∃ W, W = w3.alloc (.cells #[.bool n1, .slice A1 l1.length c1] 24) := ⟨_, rfl⟩
  have X1 : Box2 w4 w3.heap.size (.bool n1) (.slice A1 l1.length c1) := by rw [hw4]; exact Box2.new _ _ _
  have hb4 : Below w3.heap.size w3 w4 := by rw [hw4]; exact ba (b0 _) _
  rw [← hw4]
  clear hw4
  have K4 := bt K3 hb4
  have Y4 := Y3.below hb4
  have S1 := Lib.hid (V1.out.1.below hb4)
  clear K3 Y3
  go_wp2_with fail
  refine (HP.out w4 (HTn.out.below K4)).2.mono ?_
  rintro e w5 ⟨n2, A2, c2, l2, rfl, hw2, hB2, hz2, hlen2, hb5⟩
  have V2 := Lib.hid (And.intro hw2 (And.intro hB2 (And.intro hz2 hlen2)))
  have K5 := bt K4 hb5
  have Y5 := Y4.below hb5
  have X5 := X1.below hb5
  have S5 := Lib.hid (S1.out.below hb5)
  clear hw2 hB2 hz2 hlen2 K4 Y4 X1 S1
  go_upto_region 5 with fail
  obtain ⟨w6, hw6⟩ : ∃ W, W = w5.alloc (.cells #[.bool n2, .slice A2 l2.length c2] 24) := ⟨_, rfl⟩
  have X2 : Box2 w6 w5.heap.size (.bool n2) (.slice A2 l2.length c2) := by rw [hw6]; exact Box2.new _ _ _
  have hb6 : Below w5.heap.size w5 w6 := by rw [hw6]; exact ba (b0 _) _
  rw [← hw6]
  clear hw6
  have K6 := bt K5 hb6
  have Y6 := Y5.below hb6
  have X6 := X5.below hb6
  have S6 := Lib.hid (S5.out.below hb6)
  have S7 := Lib.hid (V2.out.1.below hb6)
  clear K5 Y5 X5 S5
  have x0 := X6.cell0
  have x1 := X6.cell1
  have u0 := X2.cell0
  have u1 := X2.cell1
  have y0 := Y6.cell0
  have y1 := Y6.cell1
  have HT6 := Lib.hid (HTn.out.below K6)
  have HK6 := Lib.hid K6
  have HY6 := Lib.hid Y6
  have HX6 := Lib.hid X6
  have HX2 := Lib.hid X2
  clear K6 Y6 X6 X2 hb4 hb5 hb6 HTn
  go_wp2_with fail
  go_region_with (first
    | (go_at_call 5; refine (sane_any _ (HT6.out.below (by repeat (first | exact b0 _ | refine bw ?_ | refine bd ?_ _)))).mono ?_; rintro e w7 ⟨rfl, hb7⟩; have hK7 : Below w6.heap.size w6 w7 := bt (by repeat (first | exact b0 _ | refine bw ?_ | refine bd ?_ _)) hb7; clear hb7 x0 x1 u0 u1 y0 y1; have x0 := (HX6.out.below hK7).cell0; have x1 := (HX6.out.below hK7).cell1; have u0 := (HX2.out.below hK7).cell0; have u1 := (HX2.out.below hK7).cell1; have y0 := (HY6.out.below hK7).cell0; have y1 := (HY6.out.below hK7).cell1)
    | (go_at_call 8; refine (same_of ((S6.out.below hK7).below (by repeat (first | exact b0 _ | refine bw ?_ | refine bd ?_ _))) ((S7.out.below hK7).below (by repeat (first | exact b0 _ | refine bw ?_ | refine bd ?_ _))) V1.out.2.1 V2.out.2.1 V1.out.2.2.1 V2.out.2.2.1 (by have := V1.out.2.2.2; omega) (by have := V2.out.2.2.2; omega)).mono ?_; rintro e w8 ⟨rfl, hb8⟩; have hK8 : Below w6.heap.size w6 w8 := bt (bt hK7 (by repeat (first | exact b0 _ | refine bw ?_ | refine bd ?_ _))) hb8; clear hb8 x0 x1 u0 u1 y0 y1; have y0 := (HY6.out.below hK8).cell0; have y1 := (HY6.out.below hK8).cell1)
    | (go_at_call 9; refine (HPR.out _ (bt (bt HK6.out hK8) (by repeat (first | exact b0 _ | refine bw ?_ | refine bd ?_ _)))).1.mono ?_; rintro e w9 ⟨rfl, hb9⟩; have hK9 : Below w6.heap.size w6 w9 := bt (bt hK8 (by repeat (first | exact b0 _ | refine bw ?_ | refine bd ?_ _))) hb9; clear hb9 y0 y1; have y0 := (HY6.out.below hK9).cell0; have y1 := (HY6.out.below hK9).cell1)
    | (go_at_call 10; refine (HPR.out _ (bt (bt HK6.out hK9) (by repeat (first | exact b0 _ | refine bw ?_ | refine bd ?_ _)))).2.mono ?_; rintro e w10 ⟨rfl, hb10⟩; have hK10 : Below w6.heap.size w6 w10 := bt (bt hK9 (by repeat (first | exact b0 _ | refine bw ?_ | refine bd ?_ _))) hb10; clear hb10 y0 y1))
  all_goals
    go_wp2_with fail
    go_ret
    exact ⟨rfl, bt HK6.out (bt hK10 (by repeat (first | exact b0 _ | refine bw ?_ | refine bd ?_ _)))⟩
set_option maxRecDepth 100000 in
set_option maxHeartbeats 4000000 in
theorem NumTexts_main2 (w : World) (text : ByteArray) (na : Bool) (A : Option Addr) (ca : Nat) (l : List Nat) (hl : WS w A l) (hx : l.length ≤ 200) (h1 : 20001 < text.size) (h2 : text.size ≤ 40000) (hT : Tens w) :
    Calls Tryd.prog 3 #[.string text, .agg #[.bool na, .slice A l.length ca]] w fun e w' => e = .returned (.bool true) ∧ Below w.heap.size w w' := by
  have HTn := Lib.hid hT
  have hsh := fun W => short_wide 200 na na na A A A l.length l.length l.length ca ca ca W (by omega) true (by simp [hx])
  have HSH := Lib.hid hsh
  obtain ⟨z, er, hP⟩ := parses_both text (by omega)
  obtain ⟨t, hPr⟩ := prints_both w na A ca l (by omega) hl hT
  have HP := Lib.hid hP
  have HPR := Lib.hid hPr
  have h1i : (3000 : Int) < (text.size : Int) := by omega
  have h2i : ¬ (text.size : Int) ≤ 20001 := by omega
  have h3i : ¬ (40000 : Int) < (text.size : Int) := by omega
  clear h1 h2
  clear hT hsh hP hPr hl hx
  go_enter Tryd.func3, Tryd.ntmps3
  go_wp2_with fail
  obtain ⟨W1, hW1⟩ : ∃ W, W = w.alloc (bx na A l.length ca) := ⟨_, rfl⟩
  have Y0 : Box2 W1 w.heap.size (.bool na) (.slice A l.length ca) := by rw [hW1]; exact Box2.new w _ _
  have K1 : Below w.heap.size w W1 := by rw [hW1]; exact ba (b0 _) _
  change Calls _ _ _ (w.alloc (bx na A l.length ca)) _
  rw [← hW1]
  clear hW1
  refine (HSH.out W1).mono ?_
  rintro e w2 ⟨rfl, hb2⟩
  have K2 : Below w.heap.size w w2 := bt K1 hb2
  have Y2 := Y0.below hb2
  clear Y0 K1 hb2 HSH
  go_wp2_with fail
  refine (HP.out w2 (HTn.out.below K2)).1.mono ?_
  rintro e w3 ⟨n1, A1, c1, l1, rfl, hw1, hB1, hz1, hlen1, hb3⟩
  have V1 := Lib.hid (And.intro hw1 (And.intro hB1 (And.intro hz1 hlen1)))
  have K3 := bt K2 hb3
  have Y3 := Y2.below hb3
  clear hw1 hB1 hz1 hlen1 hb3 K2 Y2
  go_upto_region 4 with fail
  obtain ⟨w4, hw4⟩ : ∃ W, W = w3.alloc (.cells #[.bool n1, .slice A1 l1.length c1] 24) := ⟨_, rfl⟩
  have X1 : Box2 w4 w3.heap.size (.bool n1) (.slice A1 l1.length c1) := by rw [hw4]; exact Box2.new _ _ _
  have hb4 : Below w3.heap.size w3 w4 := by rw [hw4]; exact ba (b0 _) _
  rw [← hw4]
  clear hw4
  have K4 := bt K3 hb4
  have Y4 := Y3.below hb4
  have S1 := Lib.hid (V1.out.1.below hb4)
  clear K3 Y3
  go_wp2_with fail
  refine (HP.out w4 (HTn.out.below K4)).2.mono ?_
  rintro e w5 ⟨n2, A2, c2, l2, rfl, hw2, hB2, hz2, hlen2, hb5⟩
  have V2 := Lib.hid (And.intro hw2 (And.intro hB2 (And.intro hz2 hlen2)))
  have K5 := bt K4 hb5
  have Y5 := Y4.below hb5
  have X5 := X1.below hb5
  have S5 := Lib.hid (S1.out.below hb5)
  clear hw2 hB2 hz2 hlen2 K4 Y4 X1 S1
  go_upto_region 5 with fail
  obtain ⟨w6, hw6⟩ : ∃ W, W = w5.alloc (.cells #[.bool n2, .slice A2 l2.length c2] 24) := ⟨_, rfl⟩
  have X2 : Box2 w6 w5.heap.size (.bool n2) (.slice A2 l2.length c2) := by rw [hw6]; exact Box2.new _ _ _
  have hb6 : Below w5.heap.size w5 w6 := by rw [hw6]; exact ba (b0 _) _
  rw [← hw6]
  clear hw6
  have K6 := bt K5 hb6
  have Y6 := Y5.below hb6
  have X6 := X5.below hb6
  have S6 := Lib.hid (S5.out.below hb6)
  have S7 := Lib.hid (V2.out.1.below hb6)
  clear K5 Y5 X5 S5
  have x0 := X6.cell0
  have x1 := X6.cell1
  have u0 := X2.cell0
  have u1 := X2.cell1
  have y0 := Y6.cell0
  have y1 := Y6.cell1
  have HT6 := Lib.hid (HTn.out.below K6)
  have HK6 := Lib.hid K6
  have HY6 := Lib.hid Y6
  have HX6 := Lib.hid X6
  have HX2 := Lib.hid X2
  clear K6 Y6 X6 X2 hb4 hb5 hb6 HTn
  go_wp2_with fail
  go_region_with (first
    | (go_at_call 5; refine (sane_any _ (HT6.out.below (by repeat (first | exact b0 _ | refine bw ?_ | refine bd ?_ _)))).mono ?_; rintro e w7 ⟨rfl, hb7⟩; have hK7 : Below w6.heap.size w6 w7 := bt (by repeat (first | exact b0 _ | refine bw ?_ | refine bd ?_ _)) hb7; clear hb7 x0 x1 u0 u1 y0 y1; have x0 := (HX6.out.below hK7).cell0; have x1 := (HX6.out.below hK7).cell1; have u0 := (HX2.out.below hK7).cell0; have u1 := (HX2.out.below hK7).cell1; have y0 := (HY6.out.below hK7).cell0; have y1 := (HY6.out.below hK7).cell1)
    | (go_at_call 8; refine (same_of ((S6.out.below hK7).below (by repeat (first | exact b0 _ | refine bw ?_ | refine bd ?_ _))) ((S7.out.below hK7).below (by repeat (first | exact b0 _ | refine bw ?_ | refine bd ?_ _))) V1.out.2.1 V2.out.2.1 V1.out.2.2.1 V2.out.2.2.1 (by have := V1.out.2.2.2; omega) (by have := V2.out.2.2.2; omega)).mono ?_; rintro e w8 ⟨rfl, hb8⟩; have hK8 : Below w6.heap.size w6 w8 := bt (bt hK7 (by repeat (first | exact b0 _ | refine bw ?_ | refine bd ?_ _))) hb8; clear hb8 x0 x1 u0 u1 y0 y1; have y0 := (HY6.out.below hK8).cell0; have y1 := (HY6.out.below hK8).cell1)
    | (go_at_call 9; refine (HPR.out _ (bt (bt HK6.out hK8) (by repeat (first | exact b0 _ | refine bw ?_ | refine bd ?_ _)))).1.mono ?_; rintro e w9 ⟨rfl, hb9⟩; have hK9 : Below w6.heap.size w6 w9 := bt (bt hK8 (by repeat (first | exact b0 _ | refine bw ?_ | refine bd ?_ _))) hb9; clear hb9 y0 y1; have y0 := (HY6.out.below hK9).cell0; have y1 := (HY6.out.below hK9).cell1)
    | (go_at_call 10; refine (HPR.out _ (bt (bt HK6.out hK9) (by repeat (first | exact b0 _ | refine bw ?_ | refine bd ?_ _)))).2.mono ?_; rintro e w10 ⟨rfl, hb10⟩; have hK10 : Below w6.heap.size w6 w10 := bt (bt hK9 (by repeat (first | exact b0 _ | refine bw ?_ | refine bd ?_ _))) hb10; clear hb10 y0 y1))
  all_goals
    go_wp2_with fail
    go_ret
    exact ⟨rfl, bt HK6.out (bt hK10 (by repeat (first | exact b0 _ | refine bw ?_ | refine bd ?_ _)))⟩

theorem NumTexts_walk (w : World) (text : ByteArray) (na : Bool) (A : Option Addr) (ca : Nat) (l : List Nat) (hl : WS w A l) (hT : Tens w) :
    Calls Tryd.prog 3 #[.string text, .agg #[.bool na, .slice A l.length ca]] w fun e w' => e = .returned (.bool true) ∧ Below w.heap.size w w' := by
  by_cases hx : l.length ≤ 200
  · by_cases h1 : text.size ≤ 3000
    · exact NumTexts_main1 w text na A ca l hl hx h1 hT
    · by_cases h2 : text.size ≤ 20001
      · exact NumTexts_mid w text na A _ ca hx (by omega) h2 hT
      · by_cases h3 : text.size ≤ 40000
        · exact NumTexts_main2 w text na A ca l hl hx (by omega) h3 hT
        · exact NumTexts_big w text na A _ ca hx (by omega) hT
  · exact NumTexts_long w text na A _ ca hx hT
end Go.Proofs.YtlloilbinobljaaDoor
