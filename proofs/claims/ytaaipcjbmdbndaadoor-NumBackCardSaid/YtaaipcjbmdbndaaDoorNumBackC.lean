/- NumBack: for every input (an integer, canonical or not, of any length, a text and three bytes) the law returns true and its arguments read as they did.
   Conditions: none but the row's own: the table 'tens' of package num holds, when the call begins, what the program's text lays (the card ties that to the text). -/
import Derived.Test.YtaaipcjbmdbndaaDoorNumEx
import Derived.Test.YtaaipcjbmdbndaaDoorNumBack
import Derived.ChangeMaps5
import Derived.Test.YtaaipcjbmdbndaaDoorCards
import Derived.Test.YtaaipcjbmdbndaaDoorTie
set_option linter.unusedSimpArgs false
set_option linter.unusedVariables false
namespace Go.Proofs.YtaaipcjbmdbndaaDoor
open Go.RowKit
set_option maxRecDepth 100000 in
set_option maxHeartbeats 2000000 in
theorem NumBack_long (w : World) (na : Bool) (A : Option Addr) (x ca : Nat) (text : ByteArray) (digit m n : Int) (hlong : ¬ x ≤ 40) (hT : Tens w) :
    Calls Tryd.prog 7 #[.agg #[.bool na, .slice A x ca], .string text, .int .u8 digit, .int .u8 m, .int .u8 n] w fun e w' => e = .returned (.bool true) ∧ Below w.heap.size w w' := by
  have HTn := Lib.hid hT
  have hsh := fun W => short_wide 40 na na na A A A x x x ca ca ca W (by omega) false (by rw [Bool.eq_false_iff]; intro h; simp only [Bool.and_eq_true, decide_eq_true_eq] at h; exact hlong h.2)
  have HSH := Lib.hid hsh
  clear hT hsh hlong
  go_enter Tryd.func7, Tryd.ntmps7
  go_wp2_with fail
  refine (HSH.out _).mono ?_
  rintro e w2 ⟨rfl, hb2⟩
  have hb : Below w.heap.size w w2 := bt (ba (b0 _) _) hb2
  go_wp2_with fail
  refine (sane_any w2 (HTn.out.below hb)).mono ?_
  rintro e w3 ⟨rfl, hb3⟩
  go_wp2_with fail
  go_ret
  exact ⟨rfl, bt hb hb3⟩

set_option maxRecDepth 100000 in
set_option maxHeartbeats 2000000 in
theorem NumBack_not (w : World) (na : Bool) (A : Option Addr) (ca : Nat) (l : List Nat) (text : ByteArray) (digit m n : Int) (p : Bool) (hl : WS w A l) (hl1 : l.length ≤ 40) (hp : isB na l = p) (hnot : p = false ∨ 3000 < text.size) (hT : Tens w) :
    Calls Tryd.prog 7 #[.agg #[.bool na, .slice A l.length ca], .string text, .int .u8 digit, .int .u8 m, .int .u8 n] w fun e w' => e = .returned (.bool true) ∧ Below w.heap.size w w' := by
  have HTn := Lib.hid hT
  have HA := Lib.hid hp
  have HN := Lib.hid hnot
  have hsh := fun W => short_wide 40 na na na A A A l.length l.length l.length ca ca ca W (by omega) true (by simp [hl1])
  have HSH := Lib.hid hsh
  clear hT hp hsh hnot
  go_enter Tryd.func7, Tryd.ntmps7
  go_wp2_with fail
  obtain ⟨W1, hW1⟩ : ∃ W, W = w.alloc (bx na A l.length ca) := ⟨_, rfl⟩
  have Y0 : Box2 W1 w.heap.size (.bool na) (.slice A l.length ca) := by rw [hW1]; exact Box2.new w _ _
  have K1 : Below w.heap.size w W1 := by rw [hW1]; exact ba (b0 _) _
  change Calls _ _ _ (w.alloc (bx na A l.length ca)) _
  rw [← hW1]
  clear hW1
  refine (HSH.out W1).mono ?_
  rintro e w2 ⟨rfl, hb2⟩
  have K2 : Below w.heap.size w w2 := bt K1 hb2
  have y0 := (Y0.below hb2).cell0
  have y1 := (Y0.below hb2).cell1
  go_wp2_with fail
  refine (RIs_any na A l.length ca l w2 rfl (by omega) (hl.below K2)).mono ?_
  rintro e w3 ⟨rfl, hb3⟩
  rw [HA.out]
  have K := bt K2 hb3
  cases p
  · clear HN
    go_wp2_with fail
    refine (sane_any w3 (HTn.out.below K)).mono ?_
    rintro e w9 ⟨rfl, hb9⟩
    go_wp2_with fail
    go_ret
    exact ⟨rfl, bt K hb9⟩
  · have hti : (3000 : Int) < (text.size : Int) := by
      rcases HN.out with h | h
      · cases h
      · omega
    clear HN
    go_wp2_with fail
    refine (sane_any w3 (HTn.out.below K)).mono ?_
    rintro e w9 ⟨rfl, hb9⟩
    go_wp2_with fail
    go_ret
    exact ⟨rfl, bt K hb9⟩

theorem NumBack_walk (w : World) (na : Bool) (A : Option Addr) (ca : Nat) (l : List Nat) (text : ByteArray) (digit m n : Int) (hl : WS w A l) (hca : l.length ≤ ca) (hd : 0 ≤ digit ∧ digit < 256) (hm : 0 ≤ m ∧ m < 256) (hn : 0 ≤ n ∧ n < 256) (hT : Tens w) :
    Calls Tryd.prog 7 #[.agg #[.bool na, .slice A l.length ca], .string text, .int .u8 digit, .int .u8 m, .int .u8 n] w fun e w' => e = .returned (.bool true) ∧ Below w.heap.size w w' := by
  by_cases h : l.length ≤ 40
  · by_cases hc : isB na l = true
    · by_cases ht : text.size ≤ 3000
      · exact NumBack_main w na A ca l text digit m n hl h hca hc ht hd hm hn hT
      · exact NumBack_not w na A ca l text digit m n _ hl h rfl (.inr (by omega)) hT
    · exact NumBack_not w na A ca l text digit m n _ hl h rfl (.inl (by simpa using hc)) hT
  · exact NumBack_long w na A _ ca text digit m n h hT
theorem wf_u8 {n : Int} (h : (Lit.int .u8 n).wf = true) : 0 ≤ n ∧ n < 256 := by
  simp [Lit.wf, IntKind.min, IntKind.max, IntKind.signed, IntKind.bits] at h
  omega
end Go.Proofs.YtaaipcjbmdbndaaDoor
namespace Go.Proofs.YtaaipcjbmdbndaaDoor.numBack
open Go.ChangeMaps Go.ChangeShapes Go.WideShapes Go.ChangeAt Go.RowKit

theorem table {W : World} (h : laidMetH Tryd.prog Rows.numBackRow.laid W) : Tens W :=
  tens_of (Lib.tabIs_of_head (rest := []) gTab gTabType Tryd.underlying60 Tryd.underlying58 cellsW cellsTab h)

set_option maxRecDepth 100000 in
/-- What the walks give, for every argument and every world that holds the table. -/
theorem contract (H : Type) (enc : TypeId × Value → H) (W : World) (base : Nat) (args : Array Value) (ds gs : List (DataW H)) (before : List MemPlace)
    (hval : ∀ (j : Nat) t v, Tryd.f7.params[j]? = some t → args[j]? = some v → Value.okWide Tryd.prog W .any base t v)
    (hW : DataW.Whole enc Tryd.prog Tryd.f7.params.toList Rows.numBackSpec.vars false W args.toList ds gs before) (hL : laidMetH Tryd.prog Rows.numBackRow.laid W) :
    Calls Tryd.prog 7 args W fun e W' => ∃ v, e = .returned v ∧ Rows.numBackSpec.post enc Tryd.prog Tryd.f7 false true false false W args v W' := by
  have hW' := hW
  obtain ⟨p, q, hA0, hV, rfl, hfz, hnd⟩ := hW
  have hA : DataW.TrodAll enc Tryd.prog W 0 (fun _ => true) true Tryd.f7.params.toList args.toList ds p := hA0
  rw [Tryd.params7] at hA hval
  obtain ⟨v0, vs0, d0, ds0, p0, q0, hargs, rfl, rfl, h0, r0⟩ := trodAll_cons hA
  obtain ⟨v1, vs1, d1, ds1, p1, q1, rfl, rfl, rfl, h1, r1⟩ := trodAll_cons r0
  obtain ⟨v2, vs2, d2, ds2, p2, q2, rfl, rfl, rfl, h2, r2⟩ := trodAll_cons r1
  obtain ⟨v3, vs3, d3, ds3, p3, q3, rfl, rfl, rfl, h3, r3⟩ := trodAll_cons r2
  obtain ⟨v4, vs4, d4, ds4, p4, q4, rfl, rfl, rfl, h4, r4⟩ := trodAll_cons r3
  obtain ⟨rfl, rfl, rfl⟩ := trodAll_nil r4
  obtain rfl : args = #[v0, v1, v2, v3, v4] := by cases args; simp_all
  obtain ⟨rfl, rfl⟩ := trodVars_none hV
  obtain ⟨na, A, c, l, rfl, hc, hl, st0⟩ := open_I (hval 0 24 _ rfl rfl) h0
  obtain ⟨s, rfl, rfl, rfl, hs⟩ := open_string Tryd.underlying9 (hval 1 9 _ rfl rfl) h1
  obtain ⟨N2, rfl, rfl, rfl, hN2⟩ := open_int Tryd.underlying5 (hval 2 5 _ rfl rfl) h2
  obtain ⟨N3, rfl, rfl, rfl, hN3⟩ := open_int Tryd.underlying5 (hval 3 5 _ rfl rfl) h3
  obtain ⟨N4, rfl, rfl, rfl, hN4⟩ := open_int Tryd.underlying5 (hval 4 5 _ rfl rfl) h4
  refine (NumBack_walk W na A c l s N2 N3 N4 hl hc (wf_u8 hN2) (wf_u8 hN3) (wf_u8 hN4) (table hL)).mono fun e W' ⟨he, hb⟩ => ?_
  subst he
  refine ⟨_, rfl, post_below (pa := p0 ++ ([] ++ ([] ++ ([] ++ ([] ++ []))))) (pv := []) hW' (fun _ _ _ => trodAll_cons_mk (shut_bool Tryd.underlying4 _) trodAll_mk0) (fun sp hsp => ?_) (fun _ _ => rfl) rfl hb (ok_one (by kernel_rfl) rfl (okWide_bool_mk Tryd.underlying4 _))⟩
  exact trodAll_cons_mk (st0 W' hb sp (fun x hx => hsp x (by simp [hx]))) (trodAll_cons_mk (shut_string Tryd.underlying9 hs) (trodAll_cons_mk (shut_int Tryd.underlying5 hN2) (trodAll_cons_mk (shut_int Tryd.underlying5 hN3) (trodAll_cons_mk (shut_int Tryd.underlying5 hN4) trodAll_mk0))))

/-- The witness' arguments: a zero, an empty text and zeros. -/
abbrev wargs : Array Value := #[.agg #[.bool false, .slice none 0 0], .string ⟨#[]⟩, .int .u8 0, .int .u8 0, .int .u8 0]
theorem laid_met (os : Os) : laidMet Tryd.prog Rows.numBackRow.laid ((laidWorld os).forCall (fun _ _ => 0) ⟨#[], wargs, []⟩).memory :=
  laidMet_of_run' 8 (by kernel_rfl) (by kernel_rfl)
theorem reads (os : Os) {H : Type} (enc : TypeId × Value → H) : ∃ places, DataW.whole enc Tryd.prog ((laidWorld os).forCall (fun _ _ => 0) ⟨#[], wargs, []⟩).memory Tryd.f7.params.toList Rows.numBackSpec.vars false wargs.toList 8 = some ([.agg [.lit (.bool false), .nil], .lit (.string []), .lit (.int .u8 0), .lit (.int .u8 0), .lit (.int .u8 0)], [], places) :=
  ⟨[], by kernel_rfl⟩

set_option maxRecDepth 100000 in
theorem lifted (os : Os) (started : os.Started) (H : Type) (enc : TypeId × Value → H) (F : Stop.Interp) :
    ReturnsInHanded {} Tryd.checked os 7 .any ((OpenSpec.ofChange Rows.numBackSpec).preRow enc Tryd.prog Tryd.f7 Rows.numBackRow.domain false Rows.numBackRow.laid) (((OpenSpec.ofChange Rows.numBackSpec).at F).post enc Tryd.prog Tryd.f7 false true false false) := by
  obtain ⟨places, hx⟩ := reads os enc
  refine returnsInHanded_of_row (C := Tryd.checked) (s := OpenSpec.ofChange Rows.numBackSpec) own started (by kernel_rfl) Tryd.func7
    (witness_row_at (enc := enc) (C := Tryd.checked) false (laidWorld os) wargs rfl (by kernel_rfl) (by kernel_rfl) (by kernel_rfl)
      (OpenSpec.preRow_of_cond 8 hx (by kernel_rfl) (fun k hk => by cases hk) (by kernel_rfl) (laid_met os))) ?_
  intro W base args ds gs before hval hW _ _ _ hL _ _
  exact contract H enc W base args ds gs before hval hW hL

theorem said : Rows.NumBackSaid :=
  OpenClaim.holds_of_cond 7 Tryd.f7 rfl rfl rfl rfl rfl rfl rfl ⟨rfl, rfl, rfl, rfl, rfl⟩ rfl rfl rfl rfl rfl (by kernel_rfl) Tryd.func7 (by kernel_rfl)
    (of_decide_eq_true (by kernel_rfl)) (by unfold Func.isWrapper; first | (rw [if_pos (by decide +kernel)]; kernel_rfl) | (rw [if_neg (by decide +kernel)]; exact ⟨rfl, rfl⟩))
    (fun os started H enc _ F => by rw [OpenClaim.pre_eq_preRow]; exact lifted os started H enc F)

/-- No parameter wants a stand-in; the program's own looks are off. -/
theorem plain (f : FuncId) (fn : Func) (hf : Tryd.pinned.checked.prog.funcNamed "quadratrix/quadratrixlaw01.NumBack" = some f) (hfn : Tryd.pinned.checked.prog.funcs[f]? = some fn) :
    false = Tryd.pinned.checked.prog.looks [] ∧ ∀ (j : Nat) t, fn.params[j]? = some t → Tryd.pinned.checked.prog.wantsStandIn t = false := by
  obtain rfl : f = 7 := Option.some.inj ((show Tryd.prog.funcNamed "quadratrix/quadratrixlaw01.NumBack" = some 7 by kernel_rfl).symm.trans hf) |>.symm
  obtain rfl : fn = Tryd.f7 := (Option.some.inj (Tryd.func7.symm.trans hfn)).symm
  refine ⟨by kernel_rfl, fun j t ht => ?_⟩
  rw [Tryd.params7] at ht
  have ht' : t = 24 ∨ t = 9 ∨ t = 5 := by
    have := Array.mem_of_getElem? ht
    simp at this
    omega
  rcases ht' with rfl | rfl | rfl
  · exact (show Tryd.prog.wantsStandIn 24 = false by kernel_rfl)
  · exact (show Tryd.prog.wantsStandIn 9 = false by kernel_rfl)
  · exact (show Tryd.prog.wantsStandIn 5 = false by kernel_rfl)

/-- THE CARD. -/
theorem card : Rows.NumBackCardSaid :=
  Claim7.holds_tied_plain_at .later [] _ _ _ _ said (fun _ h => by cases h) (by kernel_rfl) (fun _ h => by cases h) numBack_row_tie rfl ⟨rfl, rfl⟩ (by kernel_rfl) rfl plain (by kernel_rfl)
end Go.Proofs.YtaaipcjbmdbndaaDoor.numBack
